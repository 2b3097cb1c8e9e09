/-
  What a queue's calls turn; a request that joins those that wait. (gen_qujoin.py) · slices.Delete of the first request; the line's leave. (gen_quleave.py) · The queue's own: a request with changes, and bytes, of its own. (gen_quown.py) · The line's leave. (gen_quleave.py) · The queue's Submit. (gen_qusubmit.py)
-/
import Derived.Test.YtnkfnmkbfnhmfaaGreatDoorQuW
import Derived.Test.YtnkfnmkbfnhmfaaGreatDoorLast
import Derived.Deep.AppendLies
import Derived.Test.YtnkfnmkbfnhmfaaGreatDoorTGrow
import Derived.Deep.RegionLaw
import Derived.Test.YtnkfnmkbfnhmfaaGreatDoorQuM
import Derived.BigQuiet
namespace Go.Proofs.YtnkfnmkbfnhmfaaGreatDoor
open Go Go.RowKit Go.Shelf Go.Proofs Go.ChangeMaps Go.Maps Go.WideMaps
attribute [local go_sem] Oper.semAt_some

/-- Of what there was, only blocks of S turned. -/
structure QTurn (S : Nat → Prop) (w w' : World) : Prop where
  os : w'.os = w.os
  tape : w'.tape = w.tape
  output : w'.output = w.output
  size : w.heap.size ≤ w'.heap.size
  block : ∀ j, j < w.heap.size → ¬ S j → w'.heap[j]? = w.heap[j]?
theorem QTurn.of_below {S : Nat → Prop} {w w' : World} (h : Below w.heap.size w w') : QTurn S w w' := ⟨h.os, h.tape, h.output, h.size, fun j hj _ => h.block j hj⟩
theorem QTurn.mono {S T : Nat → Prop} {w w' : World} (h : QTurn S w w') (hs : ∀ j, S j → T j) : QTurn T w w' := ⟨h.os, h.tape, h.output, h.size, fun j hj hn => h.block j hj fun hS => hn (hs j hS)⟩
theorem QTurn.trans {S T : Nat → Prop} {a b c : World} (h : QTurn S a b) (k : QTurn T b c) (hs : ∀ j, T j → j < a.heap.size → S j) : QTurn S a c :=
  ⟨k.os.trans h.os, k.tape.trans h.tape, k.output.trans h.output, Nat.le_trans h.size k.size, fun j hj hn => (k.block j (Nat.lt_of_lt_of_le hj h.size) fun hT => hn (hs j hT hj)).trans (h.block j hj hn)⟩
theorem QTurn.below {S : Nat → Prop} {w w' : World} {n : Nat} (h : QTurn S w w') (hs : ∀ j, S j → n ≤ j) (hn : n ≤ w.heap.size) : Below n w w' := ⟨h.os, h.tape, h.output, h.size, fun j hj => h.block j (by omega) fun hS => by have := hs j hS; omega⟩
theorem row_belowQ {W W' : World} {b : Nat} {o : Obj} (h : W.heap[b]? = some o) (hb : Below W.heap.size W W') : W'.heap[b]? = some o := (hb.block _ (Array.getElem?_eq_some_iff.1 h).1).trans h
theorem cell_threeQ (w : World) (x y z : Value) (t : TypeId) : ∀ j u, [x, y, z][j]? = some u → (w.alloc (.cells #[x, y, z] t)).cell? ((⟨w.heap.size, 0, none⟩ : Addr).add j) = some u := by
  intro j u hj
  match j, hj with
  | 0, hj => simp at hj; subst hj; simp [Addr.add]
  | 1, hj => simp at hj; subst hj; simp [Addr.add]
  | 2, hj => simp at hj; subst hj; simp [Addr.add]
  | (j + 3), hj => simp at hj
theorem WaitsAt.far {base : Nat} {w : World} {v : Value} {R : List QX} (h : WaitsAt base w v R) {j : Nat} (hv : v.ownBlock = some j) : base ≤ j ∧ ∃ cur : Array Value, w.heap[j]? = some (Obj.cells cur 52 (0, 0)) := rowT_ge h.row hv
set_option maxRecDepth 100000 in
set_option maxHeartbeats 8000000 in
theorem join_any {base : Nat} {w : World} {qb hb ab room : Nat} {v : Value} {R : List QX} {L : List AX} (h : QueueAt base w qb hb ab room v R L) (x : QX) (hbw : base ≤ w.heap.size) (hx : DeltasAt base w (.slice x.A x.l.length x.c) x.l) (hs : SmallD x.l) (h0 : 0 < x.l.length) (hQ : R.length ≤ 100000) :
    Calls Tryz.prog 52 #[.pointer (some ⟨qb, 1, none⟩), x.v] w fun e w' => ∃ v', e = .returned (.tuple #[]) ∧ QueueAt base w' qb hb ab room v' (R ++ [x]) L ∧ QTurn (fun j => j = qb ∨ v.ownBlock = some j) w w' ∧ ∀ j, v'.ownBlock = some j → v.ownBlock = some j ∨ w.heap.size ≤ j := by
  obtain ⟨id, bs, A, c, l⟩ := x
  unfold QX.v
  simp only at hx hs h0
  obtain ⟨n, hn⟩ : ∃ n, l.length = n := ⟨_, rfl⟩
  obtain ⟨bx, hbx⟩ : ∃ b, w.heap.size = b := ⟨_, rfl⟩
  obtain ⟨W1, hW1⟩ : ∃ W, w.alloc (.cells #[.int .i64 id, .int .i64 bs, .slice A n c] 52) = W := ⟨_, rfl⟩
  have hb1 : Below w.heap.size w W1 := by rw [← hW1]; exact (Below.refl _ _).alloc (Nat.le_refl _) _
  have hn1 : W1.heap[bx]? = some (.cells #[.int .i64 id, .int .i64 bs, .slice A n c] 52 (0, 0)) := by rw [← hW1, ← hbx]; exact heap_alloc_new _ _
  have hs1 : W1.heap.size = bx + 1 := by rw [← hW1, ← hbx]; simp
  have hbb : base ≤ W1.heap.size := by omega
  have HS1 := Lib.hid hs1
  have hq1 := h.below hb1
  have hvq : v.ownBlock ≠ some qb := fun e => by
    obtain ⟨_, cur, hc⟩ := h.waits.far e
    rw [h.heap] at hc; cases hc
  have hvx : v.ownBlock ≠ some bx := fun e => by
    obtain ⟨_, cur, hc⟩ := h.waits.far e
    have := (Array.getElem?_eq_some_iff.1 hc).1
    omega
  obtain ⟨qi, hi, hz0, hz1, hz2⟩ := info_parts request_info
  have HI := Lib.hid hi
  have HZ0 := Lib.hid hz0
  have HQB := Lib.hid (show W1.drew.heap[qb]? = _ from hq1.heap)
  have HN1 := Lib.hid (show W1.drew.heap[bx]? = _ from hn1)
  have HROW := Lib.hid (show W1.drew.ownsRow base 52 3 v R.length (qcells R) from hq1.waits.row)
  have HVQ := Lib.hid hvq
  have HVX := Lib.hid hvx
  have HQ1 := Lib.hid hq1
  have HH := Lib.hid h
  have HX := Lib.hid hx
  have HB1 := Lib.hid hb1
  have HW1 := Lib.hid hW1
  have HBX := Lib.hid hbx
  have HNL := Lib.hid hn
  have HS := Lib.hid hs
  have h0' := h0
  have hHeld := (show _ ∧ _ ∧ _ ∧ _ from ⟨cell_of_row W1 qb 1 _ _ _ hq1.heap, cell_of_row W1 bx 0 _ _ _ hn1, cell_of_row W1 bx 1 _ _ _ hn1, cell_of_row W1 bx 2 _ _ _ hn1⟩)
  simp only [List.getElem?_toArray, List.getElem?_cons_zero, List.getElem?_cons_succ] at hHeld
  rw [hn]
  clear hi hz0 hvq hvx hq1 h hx hb1 hW1 hbx hn hs hn1 hs1
  go_enter Tryz.func52, Tryz.ntmps52
  go_upto_region 1 with fail
  rw [HBX.out, HW1.out]
  go_wp2_with fail
  refine wp_region_last (fun w' => w'.cell? ⟨qb, 1, none⟩ = some v ∧ w'.cell? ⟨bx, 0, none⟩ = some (.int .i64 id) ∧ w'.cell? ⟨bx, 1, none⟩ = some (.int .i64 bs) ∧ w'.cell? ⟨bx, 2, none⟩ = some (.slice A n c)) 10 (by kernel_rfl) ?_
  refine wpAnyL_take (i := 0) (v := ?vj0) rfl (by kernel_rfl) (by kernel_rfl) (by kernel_rfl) (by kernel_rfl) (by kernel_rfl) (fun _ _ _ h => h) hHeld (Or.inl ⟨by rfl, ?yj0⟩) ?rj0
  case yj0 =>
    intro w hSw
    (try dsimp only at hSw)
    go_simp
    first | done | with_reducible rfl
  try simp only [Act.put, List.getElem_toArray, List.getElem_cons_zero, List.setIfInBounds_toArray, List.set_cons_zero, List.set_cons_succ]
  refine wpAnyL_take (i := 1) (v := ?vj1) rfl (by kernel_rfl) (by kernel_rfl) (by kernel_rfl) (by kernel_rfl) (by kernel_rfl) (fun _ _ _ h => h) hHeld (Or.inl ⟨by rfl, ?yj1⟩) ?rj1
  case yj1 =>
    intro w hSw
    (try dsimp only at hSw)
    go_simp
    first | done | with_reducible rfl
  try simp only [Act.put, List.getElem_toArray, List.getElem_cons_zero, List.getElem_cons_succ, List.setIfInBounds_toArray, List.set_cons_zero, List.set_cons_succ]
  refine wpAnyL_take (i := 2) (v := ?vj2) rfl (by kernel_rfl) (by kernel_rfl) (by kernel_rfl) (by kernel_rfl) (by kernel_rfl) (fun _ _ _ h => h) hHeld (Or.inl ⟨by rfl, ?yj2⟩) ?rj2
  case yj2 =>
    intro w hSw
    (try dsimp only at hSw)
    go_simp
    first | done | with_reducible rfl
  try simp only [Act.put, List.getElem_toArray, List.getElem_cons_zero, List.getElem_cons_succ, List.setIfInBounds_toArray, List.set_cons_zero, List.set_cons_succ]
  refine wpAnyL_take (i := 3) (v := ?vj3) rfl (by kernel_rfl) (by kernel_rfl) (by kernel_rfl) (by kernel_rfl) (by kernel_rfl) (fun _ _ _ h => h) hHeld (Or.inl ⟨by rfl, ?yj3⟩) ?rj3
  case yj3 =>
    intro w hSw
    (try dsimp only at hSw)
    go_simp
    first | done | with_reducible rfl
  try simp only [Act.put, List.getElem_toArray, List.getElem_cons_zero, List.getElem_cons_succ, List.setIfInBounds_toArray, List.set_cons_zero, List.set_cons_succ]
  refine wpAnyL_take (i := 4) (v := ?vj4) rfl (by kernel_rfl) (by kernel_rfl) (by kernel_rfl) (by kernel_rfl) (by kernel_rfl) (fun _ _ _ h => h) hHeld (Or.inl ⟨by rfl, ?yj4⟩) ?rj4
  case yj4 =>
    intro w hSw
    (try dsimp only at hSw)
    go_simp
    first | done | with_reducible rfl
  try simp only [Act.put, List.getElem_toArray, List.getElem_cons_zero, List.getElem_cons_succ, List.setIfInBounds_toArray, List.set_cons_zero, List.set_cons_succ]
  refine wpAnyL_take (i := 5) (v := ?vj5) rfl (by kernel_rfl) (by kernel_rfl) (by kernel_rfl) (by kernel_rfl) (by kernel_rfl) (fun _ _ _ h => h) hHeld (Or.inl ⟨by rfl, ?yj5⟩) ?rj5
  case yj5 =>
    intro w hSw
    (try dsimp only at hSw)
    go_simp
    first | done | with_reducible rfl
  try simp only [Act.put, List.getElem_toArray, List.getElem_cons_zero, List.getElem_cons_succ, List.setIfInBounds_toArray, List.set_cons_zero, List.set_cons_succ]
  refine wpAnyL_one (i := 6) (by kernel_rfl) rfl rfl (fun K hK => ?_)
  go_simp
  have hb8 : Below W1.drew.heap.size W1.drew (W1.drew.alloc (.cells #[.int .i64 id, .int .i64 bs, .slice A n c] 52)) := (Below.refl _ _).alloc (Nat.le_refl _) _
  have hHeld := (show _ ∧ _ ∧ _ ∧ _ from ⟨cell_of_row _ qb 1 _ _ _ (row_belowQ HQB.out hb8), cell_of_row _ bx 0 _ _ _ (row_belowQ HN1.out hb8), cell_of_row _ bx 1 _ _ _ (row_belowQ HN1.out hb8), cell_of_row _ bx 2 _ _ _ (row_belowQ HN1.out hb8)⟩)
  clear hb8
  refine hK.out _ _ (fun _ => hHeld) ?_
  clear hK K
  try simp only [Act.put, List.getElem_toArray, List.getElem_cons_zero, List.getElem_cons_succ, List.setIfInBounds_toArray, List.set_cons_zero, List.set_cons_succ]
  refine wpAnyL_one (i := 7) (by kernel_rfl) rfl rfl (fun K hK => ?_)
  refine wp_append_lies _ (.tmp 8) (.tmp 10) 39 rfl base 52 qi (.agg #[.int .i64 0, .int .i64 0, .slice none 0 0]) 3 40 Tryz.underlying39 HI.out HZ0.out hz1 hz2 rfl (by decide) v R.length (qcells R) rfl (HROW.out.alloc _) ⟨W1.drew.heap.size, 0, none⟩ 1 1 [.int .i64 id, .int .i64 bs, .slice A n c] rfl rfl (cell_threeQ _ _ _ _ _) (by intro u hu; simp only [List.mem_cons, List.mem_nil_iff, or_false] at hu; rcases hu with rfl | rfl | rfl <;> rfl) (by decide) (by unfold maxLen; omega) (by omega) (by show base ≤ (W1.alloc (.cells #[.int .i64 id, .int .i64 bs, .slice A n c] 52)).heap.size; rw [World.size_alloc]; omega) _ rfl ?_
  intro g8 c8 w8 hown8 hgr8 hat8 _
  have hq8 := (hgr8.block qb (by show qb < (W1.alloc (.cells #[.int .i64 id, .int .i64 bs, .slice A n c] 52)).heap.size; rw [World.size_alloc]; have : qb < W1.heap.size := (Array.getElem?_eq_some_iff.1 HQB.out).1; omega) (fun e => HVQ.out e.symm)).trans (row_belowQ HQB.out ((Below.refl _ _).alloc (Nat.le_refl _) _))
  have hx8 := (hgr8.block bx (by show bx < (W1.alloc (.cells #[.int .i64 id, .int .i64 bs, .slice A n c] 52)).heap.size; rw [World.size_alloc]; have : bx < W1.heap.size := (Array.getElem?_eq_some_iff.1 HN1.out).1; omega) (fun e => HVX.out e.symm)).trans (row_belowQ HN1.out ((Below.refl _ _).alloc (Nat.le_refl _) _))
  have e2 : w8.frozen? ⟨qb, 1, none⟩ = false := frozen_of_row w8 qb _ _ _ hq8
  have hHeld := (show _ ∧ _ ∧ _ ∧ _ from ⟨cell_of_row _ qb 1 _ _ _ hq8, cell_of_row _ bx 0 _ _ _ hx8, cell_of_row _ bx 1 _ _ _ hx8, cell_of_row _ bx 2 _ _ _ hx8⟩)
  have d2 := hHeld.1
  have HO8 := Lib.hid hown8
  have HG8 := Lib.hid hgr8
  have HA8 := Lib.hid hat8
  have HQ8 := Lib.hid hq8
  clear hown8 hgr8 hat8 hq8 hx8
  refine hK.out _ _ (fun _ => hHeld) ?_
  clear hK K
  try simp only [Act.put, List.getElem_toArray, List.getElem_cons_zero, List.getElem_cons_succ, List.setIfInBounds_toArray, List.set_cons_zero, List.set_cons_succ]
  refine wpAnyL_one (i := 8) (by kernel_rfl) rfl rfl (fun K hK => ?_)
  go_simp
  refine hK.out _ _ (fun _ => hHeld) ?_
  clear hK K
  try simp only [Act.put, List.getElem_toArray, List.getElem_cons_zero, List.getElem_cons_succ, List.setIfInBounds_toArray, List.set_cons_zero, List.set_cons_succ]
  refine wpAnyL_take (i := 9) (v := ?vj9) rfl (by kernel_rfl) (by kernel_rfl) (by kernel_rfl) (by kernel_rfl) (by kernel_rfl) (fun _ _ _ h => h) hHeld (Or.inl ⟨by rfl, ?yj9⟩) ?rj9
  case yj9 =>
    intro w hSw
    (try dsimp only at hSw)
    go_simp
    first | done | with_reducible rfl
  try simp only [Act.put, List.getElem_toArray, List.getElem_cons_zero, List.getElem_cons_succ, List.setIfInBounds_toArray, List.set_cons_zero, List.set_cons_succ]
  refine wpAnyL_one (i := 10) (by kernel_rfl) rfl rfl (fun K hK => ?_)
  go_simp
  refine hK.out _ _ (fun h => absurd rfl h) ?_
  clear hK K
  try simp only [Act.put, List.getElem_toArray, List.getElem_cons_zero, List.getElem_cons_succ, List.setIfInBounds_toArray, List.set_cons_zero, List.set_cons_succ]
  refine wpAnyL_done (by kernel_rfl) ?_ _
  go_wp2_with fail
  go_end0
  obtain ⟨y, hy⟩ : ∃ y : QX, (⟨id, bs, A, c, l⟩ : QX) = y := ⟨_, rfl⟩
  obtain ⟨v', hv'⟩ : ∃ v', Value.slice (some ⟨g8, 0, none⟩) (R.length + 1) c8 = v' := ⟨_, rfl⟩
  obtain ⟨W9, hW9⟩ : ∃ W, w8.setCell ⟨qb, 1, none⟩ v' = W := ⟨_, rfl⟩
  rw [hv', hW9, hy]
  have hvb : v'.ownBlock = some g8 := by rw [← hv']; rfl
  have o9 : ∀ j, j ≠ qb → W9.heap[j]? = w8.heap[j]? := fun j hj => by rw [← hW9]; exact heap_setCell_other w8 ⟨qb, 1, none⟩ j _ hj
  have hs9 : w8.heap.size ≤ W9.heap.size := by rw [← hW9]; simp [World.setCell]
  have hs8 : W1.heap.size ≤ w8.heap.size := by have h2 : (W1.alloc (.cells #[.int .i64 id, .int .i64 bs, .slice A n c] 52)).heap.size ≤ w8.heap.size := HG8.out.size; rw [World.size_alloc] at h2; omega
  have hqc : w8.heap[qb]? = _ := HQ8.out
  have k8 : ∀ (j : Nat) (o : Obj), W1.heap[j]? = some o → v.ownBlock ≠ some j → w8.heap[j]? = some o := fun j o hj hn =>
    (HG8.out.block j (by have := (Array.getElem?_eq_some_iff.1 hj).1; show j < (W1.alloc _).heap.size; rw [World.size_alloc]; omega) (fun e => hn e.symm)).trans (row_belowQ (show W1.drew.heap[j]? = some o from hj) ((Below.refl _ _).alloc (Nat.le_refl _) _))
  have k9 : ∀ (j : Nat) (o : Obj), W1.heap[j]? = some o → v.ownBlock ≠ some j → j ≠ qb → W9.heap[j]? = some o := fun j o hj hn hq => (o9 j hq).trans (k8 j o hj hn)
  have kt : ∀ (j : Nat) (cur : Array Value) (t : TypeId), t = 81 ∨ t = 5 → W1.heap[j]? = some (.cells cur t (0, 0)) → W9.heap[j]? = W1.heap[j]? := fun j cur t ht hj => (k9 j _ hj (fun e => by
    obtain ⟨_, cur', hc⟩ := HQ1.out.waits.far e
    rw [hj] at hc
    rcases ht with rfl | rfl <;> cases hc) (fun e => by
    subst e
    rw [HQ1.out.heap] at hj
    rcases ht with rfl | rfl <;> cases hj)).trans hj.symm
  have dk : ∀ z : QX, DeltasAt base W1 (.slice z.A z.l.length z.c) z.l → DeltasAt base W9 (.slice z.A z.l.length z.c) z.l := fun z hz =>
    ⟨⟨hz.own.1, hz.own.2.imp (fun h => h) fun ⟨g, cap, cur, hv, hb, hg, r⟩ => ⟨g, cap, cur, hv, hb, (kt g cur _ (.inl rfl) hg).trans hg, r⟩⟩, fun u hu => (hz.bod u hu).keep fun g cur hg => kt g cur _ (.inr rfl) hg⟩
  have hrow9 : W9.ownsRow base 52 3 v' (R ++ [y]).length (qcells (R ++ [y])) := by
    have h1 : w8.ownsRow base 52 3 v' (R.length + 1) (qcells R ++ [.int .i64 id, .int .i64 bs, .slice A n c]) := by rw [← hv']; exact HO8.out
    have e : qcells (R ++ [y]) = qcells R ++ [.int .i64 id, .int .i64 bs, .slice A n c] := by rw [qcells_append, ← hy]; show _ = qcells R ++ _; rw [← HNL.out]; rfl
    rw [e, List.length_append]
    refine ⟨h1.1, h1.2.imp (fun h => h) fun ⟨g, cap, cur, hv, hb, hg, r⟩ => ⟨g, cap, cur, hv, hb, (o9 g (fun e => ?_)).trans hg, r⟩⟩
    subst e
    rw [hqc] at hg; cases hg
  have hq9 : QueueAt base W9 qb hb ab room v' (R ++ [y]) L := by
    refine ⟨by rw [← hW9]; exact heap_setCell_same w8 qb 1 _ _ _ hqc, ⟨hrow9, fun z hz => ?_, fun z hz => ?_⟩, ?_, HQ1.out.lq, HQ1.out.la⟩
    · rcases List.mem_append.1 hz with hz | hz
      · exact dk z (HQ1.out.waits.own z hz)
      · rw [List.mem_singleton] at hz
        subst hz
        exact dk z (by rw [← hy]; exact HX.out.below HB1.out)
    · rcases List.mem_append.1 hz with hz | hz
      · exact HQ1.out.waits.sm z hz
      · rw [List.mem_singleton] at hz
        subst hz
        rw [← hy]; exact ⟨HS.out, h0'⟩
    · obtain ⟨es, ck, he, F, hh, hD⟩ := HQ1.out.ans
      exact ⟨es, ck, k9 ab _ he (fun e => by
        obtain ⟨_, cur', hc⟩ := HQ1.out.waits.far e
        rw [he] at hc; cases hc) (fun e => by
        subst e
        rw [HQ1.out.heap] at he; cases he), F, hh, hD⟩
  have hbx := HBX.out
  refine ⟨v', rfl, hq9, ⟨?_, ?_, ?_, by have := HB1.out.size; omega, fun j hj hn => ?_⟩, fun j hj => ?_⟩
  · rw [← hW9]; exact HG8.out.os.trans HB1.out.os
  · rw [← hW9]; exact HG8.out.tape.trans HB1.out.tape
  · rw [← hW9]; exact HG8.out.output.trans HB1.out.output
  · obtain ⟨o, ho⟩ : ∃ o, W1.heap[j]? = some o := ⟨_, Array.getElem?_eq_getElem (by have := HB1.out.size; omega)⟩
    rw [← HB1.out.block j hj, ho]
    exact k9 j o ho (fun e => hn (.inr e)) (fun e => hn (.inl e))
  · rw [hvb] at hj
    cases hj
    rcases HA8.out with e | e
    · exact .inl e
    · refine .inr ?_
      have h2 := HB1.out.size
      rw [e]
      show w.heap.size ≤ (W1.alloc (.cells #[.int .i64 id, .int .i64 bs, .slice A n c] 52)).heap.size
      rw [World.size_alloc]
      omega
end Go.Proofs.YtnkfnmkbfnhmfaaGreatDoor
namespace Go.Proofs.YtnkfnmkbfnhmfaaGreatDoor
open Go Go.RowKit Go.Shelf Go.Proofs Go.ChangeMaps Go.Maps Go.WideMaps
attribute [local go_sem] Oper.semAt_some

theorem zero_request (w : World) : (zeroValue 52).run Tryz.prog w = .ok (.agg #[.int .i64 0, .int .i64 0, .slice none 0 0]) w := by kernel_rfl
def zeroQ : List Value := (Builtin.zeroCells #[.int .i64 0, .int .i64 0, .slice none 0 0] 1).toList
theorem zeroQ_length : zeroQ.length = 3 := by unfold zeroQ; rw [Array.length_toList, size_zeroCells]; rfl
theorem zeroQ_one : ∀ v ∈ zeroQ, v.oneCell' = true := by
  intro v hv
  unfold zeroQ Builtin.zeroCells at hv
  rw [Array.toList_map, List.mem_map] at hv
  obtain ⟨i, _, rfl⟩ := hv
  have : i % (#[Value.int .i64 0, .int .i64 0, .slice none 0 0] : Array Value).size < 3 := Nat.mod_lt _ (by decide)
  generalize i % (#[Value.int .i64 0, .int .i64 0, .slice none 0 0] : Array Value).size = k at this
  match k, this with
  | 0, _ => rfl
  | 1, _ => rfl
  | 2, _ => rfl
/-- 'clear' of one request. -/
theorem run_clear_request (w : World) (ty : TypeId) (b o c : Nat) (hc : ∀ j, j < 3 → (w.cell? ⟨b, o + j, none⟩).isSome = true) (hf : ∀ j, j < 3 → w.frozen? ⟨b, o + j, none⟩ = false) :
    (Builtin.clear_ #[39] ty #[.slice (some ⟨b, o, none⟩) 1 c]).run Tryz.prog w = .ok (.tuple #[]) (w.setCells b o zeroQ) := by
  have hst := run_storeCells_cells (P := Tryz.prog) b o zeroQ 0 w (by rw [zeroQ_length]; simpa using hc) (by rw [zeroQ_length]; simpa using hf) zeroQ_one
  simp only [Nat.add_zero] at hst
  have hst' : (storeCells ⟨b, o, none⟩ (Builtin.zeroCells #[.int .i64 0, .int .i64 0, .slice none 0 0] 1).toList).run Tryz.prog w = .ok () (w.setCells b o zeroQ) := hst
  have hz := zero_request w
  clear hst
  simp [Builtin.clear_, run_underlying Tryz.underlying39, hz, Value.cells, hst']
theorem row_shrink {base e g m n cap : Nat} {w : World} {xs ys : List Value} (h : w.ownsRow base e 3 (.slice (some ⟨g, 0, none⟩) n cap) n (xs ++ ys)) (hx : xs.length = m * 3) (hm : m ≤ n) : w.ownsRow base e 3 (.slice (some ⟨g, 0, none⟩) m cap) m xs := by
  refine ⟨hx, .inr ?_⟩
  rcases h.2 with ⟨h', _⟩ | ⟨g', cap', cur, h', hb, hg, hc, hcm, hs, ht⟩
  · cases h'
  · cases h'
    refine ⟨g, cap, cur, rfl, hb, hg, by omega, hcm, hs, ?_⟩
    have := congrArg (List.take (m * 3)) ht
    rw [List.take_take, Nat.min_eq_left (by omega), ← hx, List.take_left] at this
    rw [← hx]; exact this
set_option maxRecDepth 100000 in
set_option maxHeartbeats 8000000 in
theorem qdelete_any {base : Nat} (x : QX) (T : List QX) (g cap : Nat) (w : World) (h : w.ownsRow base 52 3 (.slice (some ⟨g, 0, none⟩) (T.length + 1) cap) (T.length + 1) (qcells (x :: T))) (hT : T.length ≤ 100000) :
    Calls Tryz.prog 81 #[.slice (some ⟨g, 0, none⟩) (T.length + 1) cap, .int .i64 0, .int .i64 1] w fun e w' => e = .returned (.slice (some ⟨g, 0, none⟩) T.length cap) ∧ w'.ownsRow base 52 3 (.slice (some ⟨g, 0, none⟩) T.length cap) T.length (qcells T) ∧ QTurn (fun j => j = g) w w' := by
  obtain ⟨qi, hi, hz0, hz1, hz2⟩ := info_parts request_info
  obtain ⟨n, hn⟩ : ∃ n, T.length = n := ⟨_, rfl⟩
  obtain ⟨hcap, hcm⟩ : n + 1 ≤ cap ∧ cap ≤ maxLen := by
    rcases h.2 with ⟨h', _⟩ | ⟨g', cap', cur, h', _, _, hc, hcm, _⟩
    · cases h'
    · cases h'; rw [hn] at hc; exact ⟨hc, hcm⟩
  unfold maxLen at hcm
  have hcell : ∀ j u, (qcells (x :: T))[j]? = some u → w.cell? ⟨g, j, none⟩ = some u := fun j u hu => by
    have := World.ownsRow.cells h (g := g) rfl j u hu
    rwa [Go.WideShapes.add_plain, Nat.zero_add] at this
  have hfr : ∀ j, w.frozen? ⟨g, j, none⟩ = false := fun j => by
    obtain ⟨_, cur, hg⟩ := rowT_ge h (g := g) rfl
    exact frozen_of_row w g j _ _ hg
  have hql : (qcells (x :: T)).length = (n + 1) * 3 := by rw [qcells_length, List.length_cons, hn]
  have htl : (qcells T).length = n * 3 := by rw [qcells_length, hn]
  have hsome : ∀ j, j < (n + 1) * 3 → (w.cell? ⟨g, j, none⟩).isSome = true := fun j hj => by
    rw [hcell j _ (List.getElem?_eq_getElem (by rw [hql]; exact hj))]; rfl
  obtain ⟨A, hA, hsrc⟩ : ∃ A : Addr, (if cap = 1 then (some ⟨g, 0, none⟩ : Option Addr) else some ⟨g, 3, none⟩) = some A ∧ Hid (∀ t u, (qcells T)[t]? = some u → w.drew.cell? (A.add t) = some u) := by
    by_cases h1 : cap = 1
    · refine ⟨⟨g, 0, none⟩, by simp [h1], fun t u hu => ?_⟩
      have := (List.getElem?_eq_some_iff.1 hu).1
      rw [htl] at this
      omega
    · refine ⟨⟨g, 3, none⟩, by simp [h1], fun t u hu => ?_⟩
      rw [Go.WideShapes.add_plain]
      show w.cell? _ = _
      refine hcell (3 + t) u ?_
      rw [qcells_cons, show 3 + t = t + 1 + 1 + 1 from by omega]
      simpa using hu
  have s1 : Hid ((qcells T).length = n * 3) := htl
  have s2 : Hid (∀ u ∈ qcells T, u.oneCell' = true) := qcells_one T
  have s3 : Hid (∀ t, t < (qcells T).length → (w.drew.cell? ⟨g, 0 + 0 * 3 + t, none⟩).isSome = true ∧ w.drew.frozen? ⟨g, 0 + 0 * 3 + t, none⟩ = false) := by
    intro t ht
    rw [htl] at ht
    rw [show 0 + 0 * 3 + t = t by omega]
    exact ⟨hsome t (by omega), hfr t⟩
  obtain ⟨W1, hW1⟩ : ∃ W1, W1 = w.drew.setCells g (0 + 0 * 3) (qcells T) := ⟨_, rfl⟩
  have hrow1 : W1.ownsRow base 52 3 (.slice (some ⟨g, 0, none⟩) (n + 1) cap) (n + 1) ((qcells (x :: T)).take 0 ++ qcells T ++ (qcells (x :: T)).drop (0 + (qcells T).length)) := by
    rw [hW1]
    refine own_setCells (qcells T) 0 w.drew (qcells (x :: T)) ?_ (by rw [htl, hql]; omega)
    rw [← hn]; exact h
  have hcl : ∀ ty, (Builtin.clear_ #[39] ty #[.slice (some ⟨g, n * 3, none⟩) 1 (cap - n)]).run Tryz.prog W1 = .ok (.tuple #[]) (W1.setCells g (n * 3) zeroQ) := fun ty =>
    run_clear_request W1 ty g (n * 3) (cap - n) (fun j hj => by rw [hW1]; exact World.isSome_setCells g _ _ _ _ (hsome (n * 3 + j) (by omega))) (fun j hj => by rw [hW1, World.frozen?_setCells]; exact hfr _)
  have hrow2 : (W1.setCells g (n * 3) zeroQ).ownsRow base 52 3 (.slice (some ⟨g, 0, none⟩) n cap) n (qcells T) := by
    have hl1 : ((qcells (x :: T)).take 0 ++ qcells T ++ (qcells (x :: T)).drop (0 + (qcells T).length)).length = (n + 1) * 3 := by simp [htl, hql]; omega
    have := own_setCells zeroQ (n * 3) W1 _ hrow1 (by rw [hl1, zeroQ_length]; omega)
    have e1 : ((qcells (x :: T)).take 0 ++ qcells T ++ (qcells (x :: T)).drop (0 + (qcells T).length)).take (n * 3) = qcells T := by
      rw [List.take_zero, List.nil_append, ← htl, List.take_left]
    rw [e1, List.append_assoc] at this
    exact row_shrink this htl (by omega)
  have hturn : QTurn (fun j => j = g) w (W1.setCells g (n * 3) zeroQ) := by
    have a1 : w.drew.grownBy W1 (some g) := by rw [hW1]; exact grown_setCells _ _
    have a2 : W1.grownBy (W1.setCells g (n * 3) zeroQ) (some g) := grown_setCells _ _
    refine ⟨a2.os.trans a1.os, a2.tape.trans a1.tape, a2.output.trans a1.output, Nat.le_trans a1.size a2.size, fun j hj hne => ?_⟩
    exact (a2.block j (Nat.lt_of_lt_of_le hj a1.size) (fun e => hne (by simpa using e))).trans (a1.block j hj (fun e => hne (by simpa using e)))
  have HI := Lib.hid hi
  have HZ1 := Lib.hid hz1
  have HW1 := Lib.hid hW1
  have HROW2 := Lib.hid hrow2
  have HTURN := Lib.hid hturn
  have HN := Lib.hid hn
  rw [hn] at hT ⊢
  have c1 : 1 ≤ cap := by omega
  have c3 : (1 : Int) ≤ (n : Int) + 1 := by omega
  have c2 : n ≤ cap := by omega
  clear h hi hz0 hz1 hz2 hcell hfr hql htl hsome hW1 hrow1 hrow2 hturn hn
  go_enter Tryz.func81, Tryz.ntmps81
  go_wp2_with fail
  go_region_law (refine step_append_room rfl (.tmp 22) (.tmp 25) 39 rfl 52 qi 3 Tryz.underlying39 HI.out HZ1.out g 0 0 cap (by simp [Act.eval, Act.put]) A n (cap - 1) (qcells T) (by simp [Act.eval, Act.put]) s1.out hsrc.out s2.out (by omega) s3.out ?_; rw [← HW1.out])
  have hne : ¬ cap = n := by omega
  have hne2 : ¬ (cap : Int) = (n : Int) := by omega
  have e1 : n + 1 - n = 1 := by omega
  have c4 : (n : Int) ≤ (n : Int) + 1 := by omega
  have c5 : (n : Int) + 1 ≤ (cap : Int) := by omega
  clear s1 s2 s3 hsrc
  go_wp2_with fail
  go_ret
  exact ⟨rfl, HROW2.out, HTURN.out⟩
end Go.Proofs.YtnkfnmkbfnhmfaaGreatDoor
namespace Go.Proofs.YtnkfnmkbfnhmfaaGreatDoor
open Go Go.RowKit Go.Shelf Go.Proofs Go.ChangeMaps Go.Maps Go.WideMaps
attribute [local go_sem] Oper.semAt_some

theorem DelsAt.cellsQ {w : World} {A : Option Addr} {c : Nat} {l : List DX} (h : DelsAt w A c l) {a : Addr} (hA : A = some a) : ∀ j u, (dcells l)[j]? = some u → w.cell? (a.add j) = some u := by
  intro j u hj
  have hlt := (List.getElem?_eq_some_iff.1 hj).1
  rw [dcells_length] at hlt
  have hi : j / 3 < l.length := by omega
  obtain ⟨x, hx⟩ : ∃ x, l[j / 3]? = some x := ⟨_, List.getElem?_eq_getElem hi⟩
  obtain ⟨a0, a1, a2⟩ := dcells_at l (j / 3) x hx
  obtain ⟨g, o, e, hr⟩ := h.row (by omega)
  rw [hA] at e
  cases e
  obtain ⟨b0, b1, b2⟩ := hr (j / 3) x hx
  rw [Go.WideShapes.add_plain]
  have hr : j % 3 < 3 := by omega
  have key : j = j / 3 * 3 + j % 3 := by omega
  generalize j % 3 = r at *
  generalize j / 3 = i at *
  subst key
  match r, hr with
  | 0, _ => rw [Nat.add_zero] at hj ⊢; rw [a0] at hj; rw [← hj]; exact b0
  | 1, _ => rw [a1] at hj; rw [← hj]; exact b1
  | 2, _ => rw [a2] at hj; rw [← hj]; exact b2
set_option maxRecDepth 100000 in
set_option maxHeartbeats 4000000 in
/-- slices.Clone of changes. -/
theorem dclone_any (l : List DX) (A : Option Addr) (c : Nat) (w : World) (h : DelsAt w A c l) (hl : l.length ≤ 100000) (h0 : 0 < l.length) :
    Calls Tryz.prog 78 #[.slice A l.length c] w fun e w' => ∃ v', e = .returned v' ∧ w'.ownsRow w.heap.size 81 3 v' l.length (dcells l) ∧ Below w.heap.size w w' := by
  obtain ⟨i0, hi, hz0, hz1, hz2⟩ := info_parts delta_info
  obtain ⟨g, o, rfl, -⟩ := h.row h0
  have hcs := h.cellsQ rfl
  have HCS := Lib.hid hcs; clear hcs
  have HI := Lib.hid hi; clear hi
  have q := fun (w : World) (a : Option Addr) (n c n' c' : Nat) => Lib.run_eql_slice_nil (P := Tryz.prog) w 50 81 a n c n' c' Tryz.underlying50
  clear h
  go_enter Tryz.func78, Tryz.ntmps78
  go_wp2_with (at_builtin; refine wpList_append_own _ rfl _ _ 50 rfl w.heap.size 81 i0 (.agg #[.int .i64 0, .string ⟨#[]⟩, .slice none 0 0]) 3 48 Tryz.underlying50 HI.out hz0 hz1 hz2 rfl (by decide) _ _ _ rfl (World.ownsRow_made w #[] 0 (Nat.le_refl _) (Nat.zero_le _) rfl) ⟨g, o, none⟩ l.length c (dcells l) rfl (dcells_length l) ?qc2 (dcells_one l) ?qc4 ?qc5 ?qc6 ?_)
  case qc2 => intro j u hj; exact Lib.cell?_alloc_some _ (HCS.out j u hj)
  case qc4 => unfold maxLen; omega
  case qc5 => omega
  case qc6 => simp
  intro v' w1 hown hgrow _
  go_wp2_with fail
  go_ret
  exact ⟨v', rfl, by simpa using hown, ((Below.refl _ w).alloc (Nat.le_refl _) _).grown hgrow (by simp) (by intro k hk; simp [Value.ownBlock] at hk; omega)⟩
/-- In the loop: the first k have bytes of their own. -/
structure QOwn (base : Nat) (l : List DX) (v : Value) (w : World) (k : Nat) (wr : World) (m : List DX) : Prop where
  own : wr.ownsRow base 81 3 v m.length (dcells m)
  len : m.length = l.length
  same : m.map DX.dl = l.map DX.dl
  rest : m.drop k = l.drop k
  bod : ∀ j x, j < k → m[j]? = some x → BytesOwn wr x.A x.b
  bel : Below base w wr
theorem dcells_set (l : List DX) (i : Nat) (x : DX) (A' : Option Addr) (c' : Nat) (hx : l[i]? = some x) : (dcells l).set (i * 3 + 2) (.slice A' x.b.length c') = dcells (l.set i { x with A := A', c := c' }) := by
  induction l generalizing i with
  | nil => simp at hx
  | cons y l ih =>
    cases i with
    | zero =>
      simp at hx; subst hx
      rfl
    | succ i =>
      rw [List.set_cons_succ]
      show (_ :: _ :: _ :: dcells l).set _ _ = _ :: _ :: _ :: dcells _
      rw [show (i + 1) * 3 + 2 = i * 3 + 2 + 1 + 1 + 1 from by omega, List.set_cons_succ, List.set_cons_succ, List.set_cons_succ, ih i (by simpa using hx)]
theorem QOwn.next {base : Nat} {l : List DX} {g n c : Nat} {w wr w2 : World} {k : Nat} {m : List DX} {x : DX} {A' : Option Addr} {c' : Nat} (h : QOwn base l (.slice (some ⟨g, 0, none⟩) n c) w k wr m) (hn : n = m.length) (hx : m[k]? = some x) (hb : Below wr.heap.size wr w2) (hbo : BytesOwn w2 A' x.b) (hbw : base ≤ wr.heap.size) :
    QOwn base l (.slice (some ⟨g, 0, none⟩) n c) w (k + 1) (w2.setCell ⟨g, k * 3 + 2, none⟩ (.slice A' x.b.length c')) (m.set k { x with A := A', c := c' }) := by
  subst hn
  have hkl := (List.getElem?_eq_some_iff.1 hx).1
  have hrow2 : w2.ownsRow base 81 3 (.slice (some ⟨g, 0, none⟩) m.length c) m.length (dcells m) := h.own.kept (row := none) (grownB hb) (.inr (by simp [Value.ownBlock]))
  obtain ⟨hgb, cur, hh⟩ := rowT_ge hrow2 (g := g) rfl
  have hkeep : ∀ {A : Option Addr} {b : Bs} (u : Value), BytesOwn w2 A b → BytesOwn (w2.setCell ⟨g, k * 3 + 2, none⟩ u) A b := fun u hb' => hb'.keep fun q cur' hq => Below.heap_setCell _ _ _ _ (fun e => by
    have e : q = g := e
    subst e
    rw [hh] at hq; cases hq)
  have h1 := (World.ownsRow.stored hrow2 (k * 3 + 2) (.slice A' x.b.length c')).1
  rw [dcells_set m k x A' c' hx] at h1
  refine ⟨by rw [List.length_set]; exact h1, by rw [List.length_set]; exact h.len, ?_, ?_, fun j y hj hy => ?_, (h.bel.trans (hb.mono hbw)).setCell (p := ⟨g, k * 3 + 2, none⟩) hgb _⟩
  · rw [← h.same, List.map_set]
    have e : (m.map DX.dl)[k]? = some x.dl := by rw [List.getElem?_map, hx]; rfl
    obtain ⟨hl2, he2⟩ := List.getElem?_eq_some_iff.1 e
    show (m.map DX.dl).set k x.dl = _
    rw [← he2, List.set_getElem_self]
  · rw [List.drop_set_of_lt (by omega), ← List.drop_drop, h.rest, List.drop_drop]
  · by_cases e : j = k
    · subst e
      rw [List.getElem?_set_self hkl] at hy
      cases hy
      exact hkeep _ hbo
    · rw [List.getElem?_set_ne (by omega)] at hy
      exact hkeep _ ((h.bod j y (by omega) hy).below hb)
theorem request_cells : Tryz.prog.cellsOf 52 = 3 := by kernel_rfl
set_option maxRecDepth 100000 in
set_option maxHeartbeats 8000000 in
theorem qown_any (x : QX) (w : World) (h : DelsAt w x.A x.c x.l) (hs : SmallD x.l) (h0 : 0 < x.l.length) :
    Calls Tryz.prog 53 #[x.v] w fun e w' => ∃ y : QX, e = .returned y.v ∧ y.id = x.id ∧ y.base = x.base ∧ y.l.map DX.dl = x.l.map DX.dl ∧ DeltasAt w.heap.size w' (.slice y.A y.l.length y.c) y.l ∧ Below w.heap.size w w' := by
  obtain ⟨id, bs, A, c, l⟩ := x
  unfold QX.v
  simp only at h hs h0
  obtain ⟨n, hn⟩ : ∃ n, l.length = n := ⟨_, rfl⟩
  obtain ⟨b1, hb1⟩ : ∃ b, w.heap.size = b := ⟨_, rfl⟩
  obtain ⟨W1, hW1⟩ : ∃ W, w.alloc (.cells #[.int .i64 id, .int .i64 bs, .slice A n c] 52) = W := ⟨_, rfl⟩
  have s1 : W1.heap.size = b1 + 1 := by rw [← hW1, ← hb1]; simp
  obtain ⟨W2, hW2⟩ : ∃ W, W1.alloc (.cells #[.int .i64 0, .int .i64 0, .slice none 0 0] 52) = W := ⟨_, rfl⟩
  have s2 : W2.heap.size = b1 + 2 := by rw [← hW2]; simp [s1]
  have g1 : W2.heap[b1]? = some (.cells #[.int .i64 id, .int .i64 bs, .slice A n c] 52 (0, 0)) := by
    rw [← hW2]
    refine (Below.heap_alloc _ _ _ (by omega)).trans ?_
    rw [← hW1, ← hb1]; exact heap_alloc_new _ _
  have g2 : W2.heap[b1 + 1]? = some (.cells #[.int .i64 0, .int .i64 0, .slice none 0 0] 52 (0, 0)) := by rw [← hW2, ← s1]; exact heap_alloc_new _ _
  have hb2 : Below w.heap.size w W2 := by rw [← hW2, ← hW1]; exact ((Below.refl _ _).alloc (Nat.le_refl _) _).alloc (by simp) _
  have hcl := dclone_any l A c W2 (h.below hb2) (by have := hs.1; omega) h0
  rw [hn] at hcl
  have HCL := Lib.hid hcl
  have HS := Lib.hid hs
  have HB := Lib.hid (fun (y : DX) (hy : y ∈ l) => h.bytes y hy)
  have HN := Lib.hid hn
  have HG2 := Lib.hid g2
  have HB2 := Lib.hid hb2
  have HG1 := Lib.hid g1
  have HW1 := Lib.hid hW1
  have HW2 := Lib.hid hW2
  have HB1 := Lib.hid hb1
  have HS2 := Lib.hid s2
  have c2 := cell_of_row W2 b1 2 _ _ _ g1
  simp only [List.getElem?_toArray, List.getElem?_cons_zero, List.getElem?_cons_succ] at c2
  rw [hn] at h0
  clear h hs hcl g2 hb2 g1 hW1 hW2 hb1
  rw [hn]
  go_enter Tryz.func53, Tryz.ntmps53
  go_upto_region 1 with fail
  rw [HB1.out, HW1.out, HW2.out]
  go_wp2_with fail
  refine HCL.out.mono ?_
  rintro e w3 ⟨v3, rfl, ho3, hb3⟩
  obtain ⟨g, c1, rfl, hg3, hcc⟩ : ∃ g c1, v3 = .slice (some ⟨g, 0, none⟩) n c1 ∧ W2.heap.size ≤ g ∧ True := by
    rcases ho3.2 with ⟨_, e⟩ | ⟨g, cap, cur, e, hbg, _⟩
    · omega
    · exact ⟨g, cap, e, hbg, trivial⟩
  have g13 := (hb3.block b1 (by rw [HS2.out]; omega)).trans HG1.out
  have g23 := (hb3.block (b1 + 1) (by rw [HS2.out]; omega)).trans HG2.out
  have e2 : w3.cell? ⟨b1, 2, none⟩ = some (.slice A n c) := cell_of_row w3 b1 2 _ _ _ g13
  have f2 : w3.frozen? ⟨b1, 2, none⟩ = false := frozen_of_row w3 b1 2 _ _ g13
  have hS2 := HS2.out
  have hgb : g ≠ b1 := by omega
  have hgb2 : g ≠ b1 + 1 := by omega
  obtain ⟨W4, hW4⟩ : ∃ W, w3.setCell ⟨b1, 2, none⟩ (.slice (some ⟨g, 0, none⟩) n c1) = W := ⟨_, rfl⟩
  have o4 : ∀ j, j ≠ b1 → W4.heap[j]? = w3.heap[j]? := fun j hj => by rw [← hW4]; exact heap_setCell_other w3 ⟨b1, 2, none⟩ j _ hj
  have g14 : W4.heap[b1]? = some (.cells #[.int .i64 id, .int .i64 bs, .slice (some ⟨g, 0, none⟩) n c1] 52 (0, 0)) := by rw [← hW4]; exact heap_setCell_same w3 b1 2 _ _ _ g13
  have g24 := (o4 (b1 + 1) (by omega)).trans g23
  have ho4 : W4.ownsRow (b1 + 2) 81 3 (.slice (some ⟨g, 0, none⟩) n c1) n (dcells l) := by
    rw [← hS2]
    exact ⟨ho3.1, ho3.2.imp (fun h => h) fun ⟨g', cap, cur, hv, hb, hg, r⟩ => ⟨g', cap, cur, hv, hb, (o4 g' (by omega)).trans hg, r⟩⟩
  have hs4 : w3.heap.size = W4.heap.size := by rw [← hW4]; simp [World.setCell]
  have hb4 : Below w.heap.size w W4 := by
    rw [← hW4]
    exact (HB2.out.trans (hb3.mono HB2.out.size)).setCell (p := ⟨b1, 2, none⟩) (by rw [HB1.out]; exact Nat.le_refl _) _
  have hsz3 := hb3.size
  have HW4 := Lib.hid hW4
  have HI0 := Lib.hid (show QOwn (b1 + 2) l (.slice (some ⟨g, 0, none⟩) n c1) W4 0 W4 l from ⟨by rw [HN.out]; exact ho4, rfl, rfl, rfl, fun j x hj => absurd hj (Nat.not_lt_zero _), Below.refl _ _⟩)
  have HG4 := Lib.hid g14
  have HG24 := Lib.hid g24
  have HB4 := Lib.hid hb4
  have hnm : n ≤ 10000 := by have := HS.out.1; rw [HN.out] at this; exact this
  clear ho3 hb3 g13 g23 o4 g14 g24 ho4 hb4 hW4 c2
  go_upto_region 2 with fail
  rw [HW4.out]
  have cb0 : W4.cell? ⟨b1, 2, none⟩ = some (.slice (some ⟨g, 0, none⟩) n c1) := cell_of_row W4 b1 2 _ _ _ HG4.out
  go_wp2_with fail
  clear cb0
  go_loopw [3, 11] (fun _ s11 wr => ∃ (k : Nat) (m : List DX), k ≤ n ∧ s11 = .int .i64 k ∧ Hid (QOwn (b1 + 2) l (.slice (some ⟨g, 0, none⟩) n c1) W4 k wr m)) (fun _ s11 _ => n - (intOf s11).toNat)
  case atStart => exact ⟨0, l, Nat.zero_le _, rfl, HI0.out⟩
  case round =>
    obtain ⟨k, m, hk, rfl, HI⟩ := hrel
    have hml : m.length = n := HI.out.len.trans HN.out
    by_cases hlt : k < n
    · obtain ⟨x, hx⟩ : ∃ x, m[k]? = some x := ⟨_, List.getElem?_eq_getElem (by rw [hml]; exact hlt)⟩
      have hlx : l[k]? = some x := by rw [← List.head?_drop, ← HI.out.rest, List.head?_drop, hx]
      have hbr := HI.out.bel
      have hb1l : b1 < wr.heap.size := by have := hbr.size; omega
      have cb : wr.cell? ⟨b1, 2, none⟩ = some (.slice (some ⟨g, 0, none⟩) n c1) := cell_of_row wr b1 2 _ _ _ ((hbr.block b1 (by omega)).trans HG4.out)
      have hown := HI.out.own
      rw [hml] at hown
      obtain ⟨_, cur, hgc⟩ := rowT_ge hown (g := g) rfl
      have ck : wr.cell? ⟨g, k * 3 + 2, none⟩ = some (.slice x.A x.b.length x.c) := by
        have := World.ownsRow.cells hown (g := g) rfl _ _ (dcells_at m k x hx).2.2
        rwa [Go.WideShapes.add_plain, Nat.zero_add] at this
      have fk : wr.frozen? ⟨g, k * 3 + 2, none⟩ = false := frozen_of_row wr g _ _ _ hgc
      have hgl : g < wr.heap.size := (Array.getElem?_eq_some_iff.1 hgc).1
      have hxm := List.mem_of_getElem? hlx
      have hbw := HB4.out.trans (hbr.mono (by rw [HB1.out]; omega))
      have hxb : BytesAt wr x.A x.b := (HB.out x hxm).below hbw
      have HC := bclone_any x.A x.c x.b wr.drew (hxb.below (Below.refl _ _).drew) (HS.out.2 x hxm).2
      obtain ⟨nb, hnb⟩ : ∃ nb, x.b.length = nb := ⟨_, rfl⟩
      obtain ⟨xA, hxA⟩ : ∃ A, x.A = A := ⟨_, rfl⟩
      obtain ⟨xc, hxc⟩ : ∃ c, x.c = c := ⟨_, rfl⟩
      rw [hxA, hxc, hnb] at ck
      rw [hxA, hxc] at HC
      rw [hnb] at HC
      have HC := Lib.hid HC
      have HNB := Lib.hid hnb
      have q1 : (k : Int) < (n : Int) := by omega
      have HX := Lib.hid hx
      have HML := Lib.hid hml
      have hb2l : b1 + 2 ≤ wr.heap.size := by have := hbr.size; omega
      have hHeld := (show _ ∧ _ from ⟨cb, ck⟩)
      clear hx hlx hbr hown hgc hxm hbw hxb hnb hxA hxc hml
      go_wp2_with fail
      refine wp_region_last (fun w' => w'.cell? ⟨b1, 2, none⟩ = some (.slice (some ⟨g, 0, none⟩) n c1) ∧ w'.cell? ⟨g, k * 3 + 2, none⟩ = some (.slice xA nb xc)) 12 (by kernel_rfl) ?_
      refine wpAnyL_take (i := 0) (v := ?vu0) rfl (by kernel_rfl) (by kernel_rfl) (by kernel_rfl) (by kernel_rfl) (by kernel_rfl) (fun _ _ _ h => h) hHeld (Or.inl ⟨by rfl, ?yu0⟩) ?ru0
      case yu0 =>
        intro w hSw
        (try dsimp only at hSw)
        go_simp
        first | done | with_reducible rfl
      try simp only [Act.put, List.getElem_toArray, List.getElem_cons_zero, List.setIfInBounds_toArray, List.set_cons_zero, List.set_cons_succ]
      refine wpAnyL_take (i := 1) (v := ?vu1) rfl (by kernel_rfl) (by kernel_rfl) (by kernel_rfl) (by kernel_rfl) (by kernel_rfl) (fun _ _ _ h => h) hHeld (Or.inl ⟨by rfl, ?yu1⟩) ?ru1
      case yu1 =>
        intro w hSw
        (try dsimp only at hSw)
        go_simp
        first | done | with_reducible rfl
      try simp only [Act.put, List.getElem_toArray, List.getElem_cons_zero, List.getElem_cons_succ, List.setIfInBounds_toArray, List.set_cons_zero, List.set_cons_succ]
      refine wpAnyL_take (i := 2) (v := ?vu2) rfl (by kernel_rfl) (by kernel_rfl) (by kernel_rfl) (by kernel_rfl) (by kernel_rfl) (fun _ _ _ h => h) hHeld (Or.inl ⟨by rfl, ?yu2⟩) ?ru2
      case yu2 =>
        intro w hSw
        (try dsimp only at hSw)
        go_simp
        first | done | with_reducible rfl
      try simp only [Act.put, List.getElem_toArray, List.getElem_cons_zero, List.getElem_cons_succ, List.setIfInBounds_toArray, List.set_cons_zero, List.set_cons_succ]
      refine wpAnyL_take (i := 3) (v := ?vu3) rfl (by kernel_rfl) (by kernel_rfl) (by kernel_rfl) (by kernel_rfl) (by kernel_rfl) (fun _ _ _ h => h) hHeld (Or.inl ⟨by rfl, ?yu3⟩) ?ru3
      case yu3 =>
        intro w hSw
        (try dsimp only at hSw)
        go_simp
        first | done | with_reducible rfl
      try simp only [Act.put, List.getElem_toArray, List.getElem_cons_zero, List.getElem_cons_succ, List.setIfInBounds_toArray, List.set_cons_zero, List.set_cons_succ]
      refine wpAnyL_take (i := 4) (v := ?vu4) rfl (by kernel_rfl) (by kernel_rfl) (by kernel_rfl) (by kernel_rfl) (by kernel_rfl) (fun _ _ _ h => h) hHeld (Or.inl ⟨by rfl, ?yu4⟩) ?ru4
      case yu4 =>
        intro w hSw
        (try dsimp only at hSw)
        go_simp
        first | done | with_reducible rfl
      try simp only [Act.put, List.getElem_toArray, List.getElem_cons_zero, List.getElem_cons_succ, List.setIfInBounds_toArray, List.set_cons_zero, List.set_cons_succ]
      refine wpAnyL_take (i := 5) (v := ?vu5) rfl (by kernel_rfl) (by kernel_rfl) (by kernel_rfl) (by kernel_rfl) (by kernel_rfl) (fun _ _ _ h => h) hHeld (Or.inl ⟨by rfl, ?yu5⟩) ?ru5
      case yu5 =>
        intro w hSw
        (try dsimp only at hSw)
        go_simp
        first | done | with_reducible rfl
      try simp only [Act.put, List.getElem_toArray, List.getElem_cons_zero, List.getElem_cons_succ, List.setIfInBounds_toArray, List.set_cons_zero, List.set_cons_succ]
      refine wpAnyL_take (i := 6) (v := ?vu6) rfl (by kernel_rfl) (by kernel_rfl) (by kernel_rfl) (by kernel_rfl) (by kernel_rfl) (fun _ _ _ h => h) hHeld (Or.inl ⟨by rfl, ?yu6⟩) ?ru6
      case yu6 =>
        intro w hSw
        (try dsimp only at hSw)
        go_simp
        first | done | with_reducible rfl
      try simp only [Act.put, List.getElem_toArray, List.getElem_cons_zero, List.getElem_cons_succ, List.setIfInBounds_toArray, List.set_cons_zero, List.set_cons_succ]
      refine wpAnyL_take (i := 7) (v := ?vu7) rfl (by kernel_rfl) (by kernel_rfl) (by kernel_rfl) (by kernel_rfl) (by kernel_rfl) (fun _ _ _ h => h) hHeld (Or.inl ⟨by rfl, ?yu7⟩) ?ru7
      case yu7 =>
        intro w hSw
        (try dsimp only at hSw)
        go_simp
        first | done | with_reducible rfl
      try simp only [Act.put, List.getElem_toArray, List.getElem_cons_zero, List.getElem_cons_succ, List.setIfInBounds_toArray, List.set_cons_zero, List.set_cons_succ]
      refine wpAnyL_take (i := 8) (v := ?vu8) rfl (by kernel_rfl) (by kernel_rfl) (by kernel_rfl) (by kernel_rfl) (by kernel_rfl) (fun _ _ _ h => h) hHeld (Or.inl ⟨by rfl, ?yu8⟩) ?ru8
      case yu8 =>
        intro w hSw
        (try dsimp only at hSw)
        go_simp
        first | done | with_reducible rfl
      try simp only [Act.put, List.getElem_toArray, List.getElem_cons_zero, List.getElem_cons_succ, List.setIfInBounds_toArray, List.set_cons_zero, List.set_cons_succ]
      refine wpAnyL_one (i := 9) (by kernel_rfl) rfl rfl (fun K hK => ?_)
      go_simp
      refine HC.out.mono ?_
      rintro e w2 ⟨A', c', rfl, ho, hb2⟩
      have hbd := (Below.refl wr.heap.size wr).drew.trans hb2
      have e1 := (hbd.cell (p := ⟨b1, 2, none⟩) hb1l).trans cb
      have e2 := (hbd.cell (p := ⟨g, k * 3 + 2, none⟩) hgl).trans ck
      have e3 := (hbd.frozen (p := ⟨g, k * 3 + 2, none⟩) hgl).trans fk
      have HO := Lib.hid ho
      have HB2 := Lib.hid hbd
      have hHeld := (show _ ∧ _ from ⟨e1, e2⟩)
      clear ho hb2 hbd
      refine hK.out _ _ (fun _ => hHeld) ?_
      clear hK K
      try simp only [Act.put, List.getElem_toArray, List.getElem_cons_zero, List.getElem_cons_succ, List.setIfInBounds_toArray, List.set_cons_zero, List.set_cons_succ]
      refine wpAnyL_one (i := 10) (by kernel_rfl) rfl rfl (fun K hK => ?_)
      go_simp
      refine hK.out _ _ (fun _ => hHeld) ?_
      clear hK K
      try simp only [Act.put, List.getElem_toArray, List.getElem_cons_zero, List.getElem_cons_succ, List.setIfInBounds_toArray, List.set_cons_zero, List.set_cons_succ]
      refine wpAnyL_take (i := 11) (v := ?vu11) rfl (by kernel_rfl) (by kernel_rfl) (by kernel_rfl) (by kernel_rfl) (by kernel_rfl) (fun _ _ _ h => h) hHeld (Or.inl ⟨by rfl, ?yu11⟩) ?ru11
      case yu11 =>
        intro w hSw
        (try dsimp only at hSw)
        go_simp
        first | done | with_reducible rfl
      try simp only [Act.put, List.getElem_toArray, List.getElem_cons_zero, List.getElem_cons_succ, List.setIfInBounds_toArray, List.set_cons_zero, List.set_cons_succ]
      refine wpAnyL_one (i := 12) (by kernel_rfl) rfl rfl (fun K hK => ?_)
      go_simp
      refine hK.out _ _ (fun h => absurd rfl h) ?_
      clear hK K
      try simp only [Act.put, List.getElem_toArray, List.getElem_cons_zero, List.getElem_cons_succ, List.setIfInBounds_toArray, List.set_cons_zero, List.set_cons_succ]
      refine wpAnyL_done (by kernel_rfl) ?_ _
      go_wp2_with fail
      go_roundw
      case rel =>
        refine ⟨k + 1, m.set k { x with A := A', c := c' }, by omega, by go_num, ?_⟩
        have := HI.out.next (c' := c') (by rw [HML.out]) HX.out HB2.out HO.out hb2l
        rw [HNB.out] at this
        exact this
      case measure => simp [intOf]; omega
    · obtain rfl : k = n := by omega
      have hbr := HI.out.bel
      have cb := (hbr.block b1 (by omega)).trans HG4.out
      have cr := (hbr.block (b1 + 1) (by omega)).trans HG24.out
      have hbw := HB4.out.trans (hbr.mono (by rw [HB1.out]; omega))
      have x0 := cell_of_row wr b1 0 _ _ _ cb
      have x1 := cell_of_row wr b1 1 _ _ _ cb
      have x2 := cell_of_row wr b1 2 _ _ _ cb
      have d0 := cell_of_row wr (b1 + 1) 0 _ _ _ cr
      have d1 := cell_of_row wr (b1 + 1) 1 _ _ _ cr
      have d2 := cell_of_row wr (b1 + 1) 2 _ _ _ cr
      have f0 : wr.frozen? ⟨b1 + 1, 0, none⟩ = false := by simp [World.frozen?, cr]
      have f1 : wr.frozen? ⟨b1 + 1, 1, none⟩ = false := by simp [World.frozen?, cr]
      have f2' : wr.frozen? ⟨b1 + 1, 2, none⟩ = false := by simp [World.frozen?, cr]
      simp only [List.getElem?_toArray, List.getElem?_cons_zero, List.getElem?_cons_succ] at x0 x1 x2 d0 d1 d2
      have CR := Lib.hid cr
      have HBW := Lib.hid hbw
      clear hbr cb cr hbw
      go_wp2_with fail
      have q1 := CR.out
      rw [setCell_eq_setRow _ _ _ _ _ _ _ q1]
      have q2 := setRow_heap _ _ _ (#[Value.int .i64 0, .int .i64 0, .slice none 0 0].setIfInBounds 0 (.int .i64 id)) _ _ q1
      rw [setCell_eq_setRow _ _ _ _ _ _ _ q2]
      have q3 := setRow_heap _ _ _ ((#[Value.int .i64 0, .int .i64 0, .slice none 0 0].setIfInBounds 0 (.int .i64 id)).setIfInBounds 1 (.int .i64 bs)) _ _ q2
      rw [setCell_eq_setRow _ _ _ _ _ _ _ q3]
      have q4 := setRow_heap _ _ _ (((#[Value.int .i64 0, .int .i64 0, .slice none 0 0].setIfInBounds 0 (.int .i64 id)).setIfInBounds 1 (.int .i64 bs)).setIfInBounds 2 (.slice (some ⟨g, 0, none⟩) k c1)) _ _ q3
      simp only [setRow_setRow] at q4 ⊢
      have hml := HI.out.len.trans HN.out
      have hot : ∀ q, q ≠ b1 + 1 → (wr.setRow (b1 + 1) (((#[Value.int .i64 0, .int .i64 0, .slice none 0 0].setIfInBounds 0 (.int .i64 id)).setIfInBounds 1 (.int .i64 bs)).setIfInBounds 2 (.slice (some ⟨g, 0, none⟩) k c1))).heap[q]? = wr.heap[q]? := fun q hq => setRow_other _ _ _ _ (by omega)
      have hbz : Below w.heap.size w (wr.setRow (b1 + 1) (((#[Value.int .i64 0, .int .i64 0, .slice none 0 0].setIfInBounds 0 (.int .i64 id)).setIfInBounds 1 (.int .i64 bs)).setIfInBounds 2 (.slice (some ⟨g, 0, none⟩) k c1))) :=
        HBW.out.trans ⟨rfl, rfl, rfl, by simp, fun q hq => hot q (by have := HB1.out; omega)⟩
      have hda : DeltasAt w.heap.size (wr.setRow (b1 + 1) (((#[Value.int .i64 0, .int .i64 0, .slice none 0 0].setIfInBounds 0 (.int .i64 id)).setIfInBounds 1 (.int .i64 bs)).setIfInBounds 2 (.slice (some ⟨g, 0, none⟩) k c1))) (.slice (some ⟨g, 0, none⟩) k c1) m := by
        refine ⟨⟨HI.out.own.1, HI.out.own.2.imp (fun h => h) fun ⟨g', cap, cur, hv, hb, hg, r⟩ => ⟨g', cap, cur, hv, by have := HB1.out; omega, (hot g' (by omega)).trans hg, r⟩⟩, fun y hy => ?_⟩
        obtain ⟨j, hj⟩ := List.mem_iff_getElem?.1 hy
        have hjl := (List.getElem?_eq_some_iff.1 hj).1
        exact (HI.out.bod j y (by omega) hj).keep fun q cur' hq => hot q (fun e => by subst e; rw [CR.out] at hq; cases hq)
      refine bodyPost_ret (results_cell_row rfl _ _ (b1 + 1) 52 _ (0, 0) _ rfl q4 Tryz.underlying52 rfl (by kernel_rfl)) rfl ⟨⟨id, bs, some ⟨g, 0, none⟩, c1, m⟩, by rw [hml]; rfl, rfl, rfl, HI.out.same, by rw [hml]; exact hda, hbz⟩
end Go.Proofs.YtnkfnmkbfnhmfaaGreatDoor
namespace Go.Proofs.YtnkfnmkbfnhmfaaGreatDoor
open Go Go.RowKit Go.Shelf Go.Proofs Go.ChangeMaps Go.Maps Go.WideMaps
attribute [local go_sem] Oper.semAt_some

def ReqB (W : World) (b : Nat) (x y z : Value) : Prop := W.heap[b]? = some (.cells #[x, y, z] 52 (0, 0))
theorem ReqB.facts {W : World} {b : Nat} {x y z : Value} (h : ReqB W b x y z) : W.cell? ⟨b, 0, none⟩ = some x ∧ W.cell? ⟨b, 1, none⟩ = some y ∧ W.cell? ⟨b, 2, none⟩ = some z ∧ W.frozen? ⟨b, 0, none⟩ = false ∧ W.frozen? ⟨b, 1, none⟩ = false ∧ W.frozen? ⟨b, 2, none⟩ = false :=
  ⟨cell_of_row W b 0 _ _ _ h, cell_of_row W b 1 _ _ _ h, cell_of_row W b 2 _ _ _ h, frozen_of_row W b 0 _ _ h, frozen_of_row W b 1 _ _ h, frozen_of_row W b 2 _ _ h⟩
/-- A request stored whole. -/
theorem ReqB.store {W : World} {b : Nat} {x y z x' y' z' : Value} (h : ReqB W b x y z) : ReqB (((W.setCell ⟨b, 0, none⟩ x').setCell ⟨b, 1, none⟩ y').setCell ⟨b, 2, none⟩ z') b x' y' z' ∧ W.grownBy (((W.setCell ⟨b, 0, none⟩ x').setCell ⟨b, 1, none⟩ y').setCell ⟨b, 2, none⟩ z') (some b) := by
  have h1 := heap_setCell_same W b 0 _ _ x' h
  have h2 := heap_setCell_same _ b 1 _ _ y' h1
  have h3 := heap_setCell_same _ b 2 _ _ z' h2
  refine ⟨h3, ⟨rfl, rfl, rfl, by simp [World.setCell], fun q hq hne => ?_⟩⟩
  have hne : q ≠ b := fun e => hne (by rw [e])
  exact (heap_setCell_other _ ⟨b, 2, none⟩ q _ hne).trans ((heap_setCell_other _ ⟨b, 1, none⟩ q _ hne).trans (heap_setCell_other _ ⟨b, 0, none⟩ q _ hne))
theorem results_cq {P : Program} {fn : Func} {p u : Tmp} {ty : TypeId} (h : fn.results = #[.cell p ty, .tmp u]) (tmps : Array Value) (w : World) (g : Nat) (t : TypeId) (cs : Array Value) (fr : Nat × Nat) (d : TypeDesc)
    (v : Value) (hp : tmps.getD p undef = .pointer (some ⟨g, 0, none⟩)) (hv : tmps.getD u undef = v) (hg : w.heap[g]? = some (.cells cs t fr))
    (hu : P.underlying ty = some d) (hd : (match d with | .struct _ | .array _ _ => true | _ => false) = true) (hi : (P.info? ty).map (·.size) = some cs.size) :
    (results fn tmps).run P w = .ok (.tuple #[.agg cs, v]) w := by
  subst hv
  have hp' : tmps[p]?.getD undef = .pointer (some ⟨g, 0, none⟩) := by simpa using hp
  simp [results, h, hp', asAddr, run_loadVar_row w g t ty cs fr d hg hu hd hi]
theorem QTurn.of_grown {w w' : World} {row : Option Nat} (h : w.grownBy w' row) : QTurn (fun j => row = some j) w w' := ⟨h.os, h.tape, h.output, h.size, fun j hj hn => h.block j hj (fun e => hn e.symm)⟩
set_option maxRecDepth 100000 in
set_option maxHeartbeats 8000000 in
theorem leave_none {base : Nat} {w : World} {qb hb ab room : Nat} {v : Value} {L : List AX} (h : QueueAt base w qb hb ab room v [] L) :
    Calls Tryz.prog 58 #[.pointer (some ⟨qb, 1, none⟩)] w fun e w' => e = .returned (.tuple #[.agg #[.int .i64 0, .int .i64 0, .slice none 0 0], .bool false]) ∧ Below w.heap.size w w' := by
  obtain ⟨A, c, rfl, -, -, -, -⟩ := h.waits.slice
  have HQ := Lib.hid h
  obtain ⟨b1, hb1⟩ : ∃ b, w.heap.size = b := ⟨_, rfl⟩
  obtain ⟨W1, hW1⟩ : ∃ W, w.alloc (.cells #[.int .i64 0, .int .i64 0, .slice none 0 0] 52) = W := ⟨_, rfl⟩
  have s1 : W1.heap.size = b1 + 1 := by rw [← hW1, ← hb1]; simp
  obtain ⟨W2, hW2⟩ : ∃ W, W1.alloc (.cells #[.int .i64 0, .int .i64 0, .slice none 0 0] 52) = W := ⟨_, rfl⟩
  have r1 : ReqB W2 b1 (.int .i64 0) (.int .i64 0) (.slice none 0 0) := by
    unfold ReqB
    rw [← hW2]
    refine (Below.heap_alloc _ _ _ (by omega)).trans ?_
    rw [← hW1, ← hb1]; exact heap_alloc_new _ _
  have r2 : ReqB W2 (b1 + 1) (.int .i64 0) (.int .i64 0) (.slice none 0 0) := by unfold ReqB; rw [← hW2, ← s1]; exact heap_alloc_new _ _
  have hb2 : Below w.heap.size w W2 := by rw [← hW2, ← hW1]; exact ((Below.refl _ _).alloc (Nat.le_refl _) _).alloc (by simp) _
  have c1 : W2.cell? ⟨qb, 1, none⟩ = some (.slice A 0 c) := cell_of_row W2 qb 1 _ _ _ (h.below hb2).heap
  obtain ⟨x0, x1, x2, x3, x4, x5⟩ := r1.facts
  obtain ⟨y0, y1, y2, y3, y4, y5⟩ := r2.facts
  have HB2 := Lib.hid hb2
  have HW1 := Lib.hid hW1
  have HW2 := Lib.hid hW2
  have HB1 := Lib.hid hb1
  have HS1 := Lib.hid s1
  have R1 := Lib.hid r1
  clear h hb1 hW1 hW2 hb2 s1 r1 r2
  go_enter Tryz.func58, Tryz.ntmps58
  go_upto_region 2 with fail
  rw [HB1.out, HW1.out, HW2.out]
  go_wp2_with fail
  obtain ⟨hr3, hg3⟩ := R1.out.store (x' := .int .i64 0) (y' := .int .i64 0) (z' := .slice none 0 0)
  exact bodyPost_ret (results_cq rfl _ _ b1 _ _ (0, 0) _ (.bool false) rfl rfl hr3 Tryz.underlying52 rfl (by kernel_rfl)) rfl ⟨rfl, HB2.out.grown hg3 HB2.out.size (fun k e => by have := HB1.out; cases e; omega)⟩
set_option maxRecDepth 100000 in
set_option maxHeartbeats 8000000 in
theorem leave_any {base : Nat} {w : World} {qb hb ab room : Nat} {v : Value} {x : QX} {T : List QX} {L : List AX} (h : QueueAt base w qb hb ab room v (x :: T) L) (hT : T.length ≤ 100000) (_hbw : base ≤ w.heap.size) :
    Calls Tryz.prog 58 #[.pointer (some ⟨qb, 1, none⟩)] w fun e w' => ∃ v', e = .returned (.tuple #[x.v, .bool true]) ∧ QueueAt base w' qb hb ab room v' T L ∧ DeltasAt base w' (.slice x.A x.l.length x.c) x.l ∧ QTurn (fun j => j = qb ∨ v.ownBlock = some j) w w' ∧ v'.ownBlock = v.ownBlock := by
  obtain ⟨g, c, hv, hgb, -⟩ := h.waits.row.form (by simp)
  rw [List.length_cons] at hv
  subst hv
  have HQ := Lib.hid h
  obtain ⟨b1, hb1⟩ : ∃ b, w.heap.size = b := ⟨_, rfl⟩
  obtain ⟨W1, hW1⟩ : ∃ W, w.alloc (.cells #[.int .i64 0, .int .i64 0, .slice none 0 0] 52) = W := ⟨_, rfl⟩
  have s1 : W1.heap.size = b1 + 1 := by rw [← hW1, ← hb1]; simp
  obtain ⟨W2, hW2⟩ : ∃ W, W1.alloc (.cells #[.int .i64 0, .int .i64 0, .slice none 0 0] 52) = W := ⟨_, rfl⟩
  have s2 : W2.heap.size = b1 + 2 := by rw [← hW2]; simp [s1]
  have r1 : ReqB W2 b1 (.int .i64 0) (.int .i64 0) (.slice none 0 0) := by
    unfold ReqB
    rw [← hW2]
    refine (Below.heap_alloc _ _ _ (by omega)).trans ?_
    rw [← hW1, ← hb1]; exact heap_alloc_new _ _
  have r2 : ReqB W2 (b1 + 1) (.int .i64 0) (.int .i64 0) (.slice none 0 0) := by unfold ReqB; rw [← hW2, ← s1]; exact heap_alloc_new _ _
  have hb2 : Below w.heap.size w W2 := by rw [← hW2, ← hW1]; exact ((Below.refl _ _).alloc (Nat.le_refl _) _).alloc (by simp) _
  have hq2 := h.below hb2
  have c1 : W2.cell? ⟨qb, 1, none⟩ = some (.slice (some ⟨g, 0, none⟩) (T.length + 1) c) := cell_of_row W2 qb 1 _ _ _ hq2.heap
  obtain ⟨a0, a1, a2⟩ := qcells_at (x :: T) 0 x rfl
  have q0 := World.ownsRow.cells hq2.waits.row (g := g) rfl _ _ a0
  have q1 := World.ownsRow.cells hq2.waits.row (g := g) rfl _ _ a1
  have q2 := World.ownsRow.cells hq2.waits.row (g := g) rfl _ _ a2
  rw [Go.WideShapes.add_plain] at q0 q1 q2
  simp only [Nat.zero_mul, Nat.zero_add, Nat.add_zero] at q0 q1 q2
  obtain ⟨y0, y1, y2, y3, y4, y5⟩ := r2.facts
  have hgw : g < w.heap.size := by
    obtain ⟨_, cur, hc⟩ := h.waits.far (j := g) rfl
    exact (Array.getElem?_eq_some_iff.1 hc).1
  have hqw : qb < w.heap.size := (Array.getElem?_eq_some_iff.1 h.heap).1
  obtain ⟨r3, g3⟩ := r2.store (x' := .int .i64 x.id) (y' := .int .i64 x.base) (z' := .slice x.A x.l.length x.c)
  obtain ⟨W3, hW3⟩ : ∃ W, ((W2.setCell ⟨b1 + 1, 0, none⟩ (.int .i64 x.id)).setCell ⟨b1 + 1, 1, none⟩ (.int .i64 x.base)).setCell ⟨b1 + 1, 2, none⟩ (.slice x.A x.l.length x.c) = W := ⟨_, rfl⟩
  rw [hW3] at r3 g3
  have hb3 : Below w.heap.size w W3 := hb2.grown g3 hb2.size (fun k e => by cases e; omega)
  have hq3 := h.below hb3
  have r13 : ReqB W3 b1 (.int .i64 0) (.int .i64 0) (.slice none 0 0) := (g3.block b1 (by omega) (by simp)).trans r1
  have e1 : W3.cell? ⟨qb, 1, none⟩ = some (.slice (some ⟨g, 0, none⟩) (T.length + 1) c) := cell_of_row W3 qb 1 _ _ _ hq3.heap
  have HDEL := Lib.hid (qdelete_any x T g c W3 (by have := hq3.waits.row; rwa [List.length_cons] at this) hT)
  have s3 : b1 + 2 ≤ W3.heap.size := by have := g3.size; omega
  have HB3 := Lib.hid hb3
  have HQ3 := Lib.hid hq3
  have R3 := Lib.hid r3
  have R13 := Lib.hid r13
  have HW1 := Lib.hid hW1
  have HW2 := Lib.hid hW2
  have HW3 := Lib.hid hW3
  have HB1 := Lib.hid hb1
  obtain ⟨n, hn⟩ : ∃ n, T.length = n := ⟨_, rfl⟩
  have HN := Lib.hid hn
  rw [hn] at c1 e1 HDEL hT
  clear h hb1 hW1 hW2 hW3 hb2 hb3 s1 s2 r1 r2 r3 r13 g3 hq2 hq3 a0 a1 a2 hn
  go_enter Tryz.func58, Tryz.ntmps58
  go_upto_region 2 with fail
  rw [HB1.out, HW1.out, HW2.out]
  go_upto_region 5 with fail
  rw [HW3.out]
  clear c1 q0 q1 q2 y0 y1 y2 y3 y4 y5
  go_wp2_with fail
  refine HDEL.out.mono ?_
  rintro e w4 ⟨rfl, hrow4, ht4⟩
  have hbv := HB1.out
  have hgq : g ≠ qb := fun e => by
    obtain ⟨_, cur, hc⟩ := HQ.out.waits.far (j := g) rfl
    rw [e, HQ.out.heap] at hc; cases hc
  have hqb4 : w4.heap[qb]? = _ := (ht4.block qb (by omega) (fun e => hgq e.symm)).trans HQ3.out.heap
  have r4 : ReqB w4 (b1 + 1) (.int .i64 x.id) (.int .i64 x.base) (.slice x.A x.l.length x.c) := (ht4.block (b1 + 1) (by omega) (by omega)).trans R3.out
  have r14 : ReqB w4 b1 (.int .i64 0) (.int .i64 0) (.slice none 0 0) := (ht4.block b1 (by omega) (by omega)).trans R13.out
  have f1 : w4.frozen? ⟨qb, 1, none⟩ = false := frozen_of_row w4 qb 1 _ _ hqb4
  have f2 : w4.cell? ⟨qb, 1, none⟩ = some (.slice (some ⟨g, 0, none⟩) (n + 1) c) := by rw [cell_of_row w4 qb 1 _ _ _ hqb4]; simp [HN.out]
  obtain ⟨W5, hW5⟩ : ∃ W, w4.setCell ⟨qb, 1, none⟩ (.slice (some ⟨g, 0, none⟩) n c) = W := ⟨_, rfl⟩
  have o5 : ∀ j, j ≠ qb → W5.heap[j]? = w4.heap[j]? := fun j hj => by rw [← hW5]; exact heap_setCell_other w4 ⟨qb, 1, none⟩ j _ hj
  have hqb5 : W5.heap[qb]? = some (.cells #[.pointer (some ⟨hb, 0, none⟩), .slice (some ⟨g, 0, none⟩) n c, .int .i64 room, .map (some ab)] 105 (0, 0)) := by rw [← hW5]; exact heap_setCell_same w4 qb 1 _ _ _ hqb4
  have r5 : ReqB W5 (b1 + 1) (.int .i64 x.id) (.int .i64 x.base) (.slice x.A x.l.length x.c) := (o5 (b1 + 1) (by omega)).trans r4
  have r15 : ReqB W5 b1 (.int .i64 0) (.int .i64 0) (.slice none 0 0) := (o5 b1 (by omega)).trans r14
  have hs5 : w4.heap.size = W5.heap.size := by rw [← hW5]; simp [World.setCell]
  obtain ⟨y0, y1, y2, y3, y4, y5⟩ := r5.facts
  obtain ⟨x0, x1, x2, x3, x4, x5⟩ := r15.facts
  have t5 : QTurn (fun j => j = qb ∨ j = g) w4 W5 := ⟨by rw [← hW5]; rfl, by rw [← hW5]; rfl, by rw [← hW5]; rfl, by omega, fun j _ hn => o5 j (fun e => hn (.inl e))⟩
  have HW5 := Lib.hid hW5
  have HQB5 := Lib.hid hqb5
  have R15 := Lib.hid r15
  have HO5 := Lib.hid o5
  have HROW4 := Lib.hid hrow4
  have HT4 := Lib.hid ht4
  have HT5 := Lib.hid t5
  have hs4 := ht4.size
  clear hW5 hqb5 r5 r15 o5 hrow4 ht4 t5 r4 r14 hqb4
  go_upto_region 6 with fail
  rw [HW5.out]
  clear f1 f2 e1
  go_wp2_with fail
  obtain ⟨r6, g6⟩ := R15.out.store (x' := .int .i64 x.id) (y' := .int .i64 x.base) (z' := .slice x.A x.l.length x.c)
  obtain ⟨W6, hW6⟩ : ∃ W, ((W5.setCell ⟨b1, 0, none⟩ (.int .i64 x.id)).setCell ⟨b1, 1, none⟩ (.int .i64 x.base)).setCell ⟨b1, 2, none⟩ (.slice x.A x.l.length x.c) = W := ⟨_, rfl⟩
  rw [hW6] at r6 g6 ⊢
  have k6 : ∀ (j : Nat) (o : Obj), w.heap[j]? = some o → j ≠ qb → j ≠ g → W6.heap[j]? = some o := fun j o ho h1 h2 => by
    have hj := (Array.getElem?_eq_some_iff.1 ho).1
    have hz := HB3.out.size
    exact (g6.block j (by omega) (by simp; omega)).trans ((HO5.out j h1).trans ((HT4.out.block j (by omega) h2).trans ((HB3.out.block j hj).trans ho)))
  have kt : ∀ (j : Nat) (cur : Array Value) (t : TypeId), t = 81 ∨ t = 5 → w.heap[j]? = some (.cells cur t (0, 0)) → W6.heap[j]? = w.heap[j]? := fun j cur t ht hj => (k6 j _ hj (fun e => by
    subst e
    rw [HQ.out.heap] at hj
    rcases ht with rfl | rfl <;> cases hj) (fun e => by
    obtain ⟨_, cur', hc⟩ := HQ.out.waits.far (j := g) rfl
    subst e
    rw [hj] at hc
    rcases ht with rfl | rfl <;> cases hc)).trans hj.symm
  have dk : ∀ z : QX, DeltasAt base w (.slice z.A z.l.length z.c) z.l → DeltasAt base W6 (.slice z.A z.l.length z.c) z.l := fun z hz =>
    ⟨⟨hz.own.1, hz.own.2.imp (fun h => h) fun ⟨g, cap, cur, hv, hb, hg, r⟩ => ⟨g, cap, cur, hv, hb, (kt g cur _ (.inl rfl) hg).trans hg, r⟩⟩, fun u hu => (hz.bod u hu).keep fun g cur hg => kt g cur _ (.inr rfl) hg⟩
  have hq6 : QueueAt base W6 qb hb ab room (.slice (some ⟨g, 0, none⟩) n c) T L := by
    refine ⟨(g6.block qb (by omega) (by simp; omega)).trans HQB5.out, ⟨?_, fun z hz => dk z (HQ.out.waits.own z (List.mem_cons_of_mem _ hz)), fun z hz => HQ.out.waits.sm z (List.mem_cons_of_mem _ hz)⟩, ?_, HQ.out.lq, HQ.out.la⟩
    · have h4 := HROW4.out
      rw [HN.out]
      refine ⟨h4.1, h4.2.imp (fun h => h) fun ⟨g', cap, cur, hv, hb', hg, r⟩ => ⟨g', cap, cur, hv, hb', ?_, r⟩⟩
      have : g' = g := by cases hv; rfl
      subst this
      have hz := HB3.out.size
      exact (g6.block g' (by omega) (by simp; omega)).trans ((HO5.out g' hgq).trans hg)
    · obtain ⟨es, ck, he, F, hh, hD⟩ := HQ.out.ans
      exact ⟨es, ck, k6 ab _ he (fun e => by
        subst e
        rw [HQ.out.heap] at he; cases he) (fun e => by
        obtain ⟨_, cur', hc⟩ := HQ.out.waits.far (j := g) rfl
        rw [← e, he] at hc; cases hc), F, hh, hD⟩
  have t6 : QTurn (fun j => j = qb ∨ some g = some j) w W6 := by
    have hz := HB3.out.size
    refine ⟨g6.os.trans (HT5.out.os.trans (HT4.out.os.trans HB3.out.os)), g6.tape.trans (HT5.out.tape.trans (HT4.out.tape.trans HB3.out.tape)), g6.output.trans (HT5.out.output.trans (HT4.out.output.trans HB3.out.output)), by have := g6.size; omega, fun j hj hne => ?_⟩
    obtain ⟨o, ho⟩ : ∃ o, w.heap[j]? = some o := ⟨_, Array.getElem?_eq_getElem hj⟩
    rw [ho]
    exact k6 j o ho (fun e => hne (.inl e)) (fun e => hne (.inr (by rw [e])))
  exact bodyPost_ret (results_cq rfl _ _ b1 _ _ (0, 0) _ (.bool true) rfl rfl r6 Tryz.underlying52 rfl (by kernel_rfl)) rfl ⟨_, rfl, hq6, dk x (HQ.out.waits.own x (by simp)), t6, rfl⟩
end Go.Proofs.YtnkfnmkbfnhmfaaGreatDoor
namespace Go.Proofs.YtnkfnmkbfnhmfaaGreatDoor
open Go Go.RowKit Go.Shelf Go.Proofs Go.ChangeMaps Go.Maps Go.WideMaps
attribute [local go_sem] Oper.semAt_some

/-- What Submit answers. -/
def subE (n room : Nat) (R : List QX) (L : List AX) (x : QX) : Int :=
  if x.id < 1 ∨ x.l.length = 0 then 2 else if x.base < 0 ∨ (n : Int) < x.base then 7 else if hasA L x.id || waitsQ R x.id then 12 else if room ≤ R.length then 8 else 0
theorem DeltasAt.lowerQ {base base' : Nat} {w : World} {v : Value} {l : List DX} (h : DeltasAt base w v l) (hb : base' ≤ base) : DeltasAt base' w v l :=
  ⟨⟨h.own.1, h.own.2.imp (fun h => h) fun ⟨g, cap, cur, hv, hb', r⟩ => ⟨g, cap, cur, hv, Nat.le_trans hb hb', r⟩⟩, h.bod⟩
theorem small_dl {a b : List DX} (h : a.map DX.dl = b.map DX.dl) (hb : SmallD b) : SmallD a := by
  have hl : a.length = b.length := by have := congrArg List.length h; simpa using this
  refine ⟨by rw [hl]; exact hb.1, fun x hx => ?_⟩
  obtain ⟨i, hi⟩ := List.mem_iff_getElem?.1 hx
  have e1 : (a.map DX.dl)[i]? = some x.dl := by rw [List.getElem?_map, hi]; rfl
  rw [h, List.getElem?_map] at e1
  cases hb' : b[i]? with
  | none => rw [hb'] at e1; cases e1
  | some y =>
    rw [hb'] at e1
    have e2 : y.dl = x.dl := by simpa using e1
    obtain ⟨h1, h2⟩ := hb.2 y (List.mem_of_getElem? hb')
    have p1 : y.p.data.toList = x.p.data.toList := congrArg Dl.p e2
    have p2 : y.b = x.b := congrArg Dl.b e2
    have p3 : y.p.size = x.p.size := by rw [show y.p.size = y.p.data.toList.length from Array.length_toList.symm, show x.p.size = x.p.data.toList.length from Array.length_toList.symm, p1]
    exact ⟨by omega, by rw [← p2]; exact h2⟩
/-- The history stays where a queue's own turns. -/
theorem HistAt.turned {base : Nat} {w w' : World} {qb hb ab room : Nat} {v : Value} {R : List QX} {L : List AX} {n : Nat} {nm : List FX} {M : Bs → Nat} {nv cv : Value} {mb k : Nat} {D : DataW Unit} {H : List (Nat × List DX)} (h : HistAt base w hb n nm M nv cv mb k D H) (hq : QueueAt base w qb hb ab room v R L) (ht : QTurn (fun j => j = qb ∨ v.ownBlock = some j) w w') : HistAt base w' hb n nm M nv cv mb k D H := by
  have key : ∀ (j : Nat) (o : Obj), w.heap[j]? = some o → (∀ cur, o ≠ .cells cur 105 (0, 0)) → (∀ cur, o ≠ .cells cur 52 (0, 0)) → w'.heap[j]? = w.heap[j]? := fun j o ho h1 h2 => ht.block j (Array.getElem?_eq_some_iff.1 ho).1 (fun e => by
    rcases e with rfl | e
    · rw [hq.heap] at ho; cases ho; exact h1 _ rfl
    · obtain ⟨_, cur, hc⟩ := hq.waits.far e
      rw [hc] at ho; cases ho; exact h2 _ rfl)
  refine h.turnQ (fun g cur t hne hg => key g _ hg (fun cur' e => by cases e; exact hne.1 rfl) (fun cur' e => by cases e; exact hne.2 rfl)) (fun o ho => ?_)
  obtain ⟨es, ck, hm⟩ := h.map.block
  rw [key mb _ hm (fun _ e => by cases e) (fun _ e => by cases e)]
  exact ho
theorem belowQn {n : Nat} {a w : World} (h : Below n a w) (q : Nat) : Below n a (w.drewN q) := ⟨h.os, h.tape, h.output, h.size, h.block⟩
def SubPost (base : Nat) (w : World) (qb hb ab room : Nat) (v : Value) (R : List QX) (L : List AX) (n : Nat) (x : QX) (e : Ending) (w' : World) : Prop :=
  e = .returned (.int .i64 (subE n room R L x)) ∧
  ((subE n room R L x ≠ 0 ∧ Below w.heap.size w w') ∨
   (subE n room R L x = 0 ∧ ∃ v' y, QueueAt base w' qb hb ab room v' (R ++ [y]) L ∧ (y.id = x.id ∧ y.base = x.base ∧ y.l.map DX.dl = x.l.map DX.dl) ∧ QTurn (fun j => j = qb ∨ v.ownBlock = some j) w w' ∧ ∀ j, v'.ownBlock = some j → v.ownBlock = some j ∨ w.heap.size ≤ j))
set_option maxRecDepth 100000 in
set_option maxHeartbeats 16000000 in
theorem submit_any {base : Nat} {w : World} {qb hb ab room : Nat} {v : Value} {R : List QX} {L : List AX} {n : Nat} {nm : List FX} {M : Bs → Nat} {nv cv : Value} {mb k : Nat} {D : DataW Unit} {H : List (Nat × List DX)} (h : QueueAt base w qb hb ab room v R L) (hh : HistAt base w hb n nm M nv cv mb k D H) (x : QX) (hbw : base ≤ w.heap.size) (hx : DelsAt w x.A x.c x.l) (hs : SmallD x.l) (hR : R.length ≤ 100000)
    (hid : keyOf Tryz.prog 3 (.int .i64 x.id) = some (.int .i64 x.id)) :
    Calls Tryz.prog 29 #[.pointer (some ⟨qb, 0, none⟩), x.v] w (SubPost base w qb hb ab room v R L n x) := by
  obtain ⟨id, bs, A, c, l⟩ := x
  unfold QX.v
  simp only at hx hs hid
  obtain ⟨m, hm⟩ : ∃ m, l.length = m := ⟨_, rfl⟩
  obtain ⟨bx, hbx⟩ : ∃ b, w.heap.size = b := ⟨_, rfl⟩
  obtain ⟨W1, hW1⟩ : ∃ W, w.alloc (.cells #[.int .i64 id, .int .i64 bs, .slice A m c] 52) = W := ⟨_, rfl⟩
  have hb1 : Below w.heap.size w W1 := by rw [← hW1]; exact (Below.refl _ _).alloc (Nat.le_refl _) _
  have hn1 : ReqB W1 bx (.int .i64 id) (.int .i64 bs) (.slice A m c) := by unfold ReqB; rw [← hW1, ← hbx]; exact heap_alloc_new _ _
  have hq1 := h.below hb1
  have hh1 := hh.below hb1
  have HHI := Lib.hid (qhistory_any qb hb _ _ _ W1 hq1.heap)
  obtain ⟨x0, x1, x2, -, -, -⟩ := hn1.facts
  have HQ1 := Lib.hid hq1
  have HH1 := Lib.hid hh1
  have HB1 := Lib.hid hb1
  have HN1 := Lib.hid hn1
  have HW1 := Lib.hid hW1
  have HBX := Lib.hid hbx
  have HM := Lib.hid hm
  have HX := Lib.hid hx
  have HSM := Lib.hid hs
  have HSE := Lib.hid (show subE n room R L ⟨id, bs, A, c, l⟩ = if id < 1 ∨ m = 0 then 2 else if bs < 0 ∨ (n : Int) < bs then 7 else if hasA L id || waitsQ R id then 12 else if room ≤ R.length then 8 else 0 by unfold subE; simp only [hm])
  obtain ⟨se, hse⟩ : ∃ se, subE n room R L ⟨id, bs, A, c, l⟩ = se := ⟨_, rfl⟩
  have HSP := Lib.hid (show SubPost base w qb hb ab room v R L n ⟨id, bs, A, c, l⟩ = fun e w' => e = .returned (.int .i64 se) ∧ ((se ≠ 0 ∧ Below w.heap.size w w') ∨ (se = 0 ∧ ∃ v' y, QueueAt base w' qb hb ab room v' (R ++ [y]) L ∧ (y.id = id ∧ y.base = bs ∧ y.l.map DX.dl = l.map DX.dl) ∧ QTurn (fun j => j = qb ∨ v.ownBlock = some j) w w' ∧ ∀ j, v'.ownBlock = some j → v.ownBlock = some j ∨ w.heap.size ≤ j)) by funext e w'; unfold SubPost; rw [hse])
  rw [hse] at HSE
  rw [hm, HSP.out]
  have HH := Lib.hid hh
  have HQ := Lib.hid h
  clear h hh hb1 hn1 hq1 hh1 hW1 hbx hm hx hs hse
  go_enter Tryz.func29, Tryz.ntmps29
  go_upto_region 1 with fail
  rw [HBX.out, HW1.out]
  go_wp2_with fail
  refine HHI.out.mono ?_
  rintro e w2 ⟨rfl, hw2⟩
  have hw2 := hw2.symm
  subst hw2
  by_cases h1 : id < 1
  · have hse := HSE.out
    rw [if_pos (Or.inl h1)] at hse
    subst hse
    go_wp2_with fail
    go_ret
    exact ⟨rfl, .inl ⟨by decide, HB1.out⟩⟩
  · by_cases h2 : m = 0
    · have hse := HSE.out
      rw [if_pos (Or.inr h2)] at hse
      subst hse
      subst h2
      go_wp2_with fail
      go_ret
      exact ⟨rfl, .inl ⟨by decide, HB1.out⟩⟩
    · have hse1 := Lib.hid (HSE.out.trans (if_neg (by omega)))
      have h2i : ¬ (m : Int) = 0 := by omega
      by_cases h3 : bs < 0
      · have hse := hse1.out
        rw [if_pos (Or.inl h3)] at hse
        subst hse
        go_wp2_with fail
        go_ret
        exact ⟨rfl, .inl ⟨by decide, HB1.out⟩⟩
      · obtain ⟨Ac, cc, hcv, hcc⟩ := HH1.out.commit_slice
        have hc1 := HH1.out.heap
        rw [hcv] at hc1
        have HHD := Lib.hid (fun (q : Nat) => hhead_any hb Ac n cc (W1.drewN q) (cell_of_row (W1.drewN q) hb 1 _ _ _ (show (W1.drewN q).heap[hb]? = _ from hc1)))
        have q0 : W1.cell? ⟨qb, 0, none⟩ = some (.pointer (some ⟨hb, 0, none⟩)) := cell_of_row W1 qb 0 _ _ _ HQ1.out.heap
        clear hc1 hcv
        by_cases h4 : (n : Int) < bs
        · have hse := hse1.out
          rw [if_pos (Or.inr h4)] at hse
          subst hse
          go_wp2_with fail
          go_quiet ((go_at_call 17; exact Calls.quiet_of_same (HHD.out _)))
          go_wp2_with fail
          go_ret
          exact ⟨rfl, .inl ⟨by decide, belowQn HB1.out _⟩⟩
        · have hse2 := Lib.hid (hse1.out.trans (if_neg (by omega)))
          go_wp2_with fail
          go_quiet ((go_at_call 17; exact Calls.quiet_of_same (HHD.out _)))
          obtain ⟨w3, hw3⟩ : ∃ W, W1.drewN nq = W := ⟨_, rfl⟩
          have hbq : Below W1.heap.size W1 w3 := by rw [← hw3]; exact belowQn (Below.refl _ _) _
          have HB3 := Lib.hid (HB1.out.trans (hbq.mono HB1.out.size))
          have hq3 := HQ1.out.below hbq
          have HQ3 := Lib.hid hq3
          have HX3 := Lib.hid (show ReqB w3 bx (.int .i64 id) (.int .i64 bs) (.slice A m c) from row_belowQ HN1.out hbq)
          have HTK := Lib.hid (took_any hq3 id hid)
          obtain ⟨y0, y1, y2, -, -, -⟩ := HX3.out.facts
          rw [hw3]
          clear hbq hq3 x0 x1 x2 q0
          obtain ⟨tk, htk⟩ : ∃ b, (hasA L id || waitsQ R id) = b := ⟨_, rfl⟩
          have htk2 := htk
          rw [htk2] at HTK
          have hse3 := hse2.out
          rw [htk2] at hse3
          clear htk2
          have HSE3 := Lib.hid hse3
          clear hse3
          clear hw3
          cases tk with
          | true =>
            have hse := HSE3.out
            rw [if_pos rfl] at hse
            subst hse
            go_wp2_with fail
            refine HTK.out.mono ?_
            rintro e w4 ⟨rfl, hb4⟩
            have HB4 := Lib.hid (HB3.out.trans (hb4.mono HB3.out.size))
            clear hb4
            go_wp2_with fail
            go_ret
            exact ⟨rfl, .inl ⟨by decide, HB4.out⟩⟩
          | false =>
            have hse4 := Lib.hid (HSE3.out.trans (if_neg (by decide)))
            go_wp2_with fail
            refine HTK.out.mono ?_
            rintro e w4 ⟨rfl, hb4⟩
            have HB4 := Lib.hid (HB3.out.trans (hb4.mono HB3.out.size))
            have HQ4 := Lib.hid (HQ3.out.below hb4)
            have HX4 := Lib.hid (show ReqB w4 bx (.int .i64 id) (.int .i64 bs) (.slice A m c) from row_belowQ HX3.out hb4)
            clear hb4 y0 y1 y2
            obtain ⟨Av, cv2, hv, -, -, -, -⟩ := HQ4.out.waits.slice
            have hqf := HQ4.out.heap
            rw [hv] at hqf
            have HFU := Lib.hid (qfull_any qb _ _ Av R.length cv2 room w4 hqf)
            clear hqf hv
            by_cases h5 : room ≤ R.length
            · have hse := hse4.out
              rw [if_pos h5] at hse
              subst hse
              rw [decide_eq_true h5] at HFU
              go_wp2_with fail
              refine HFU.out.mono ?_
              rintro e w5 ⟨rfl, q5, rfl⟩
              go_wp2_with fail
              go_ret
              exact ⟨rfl, .inl ⟨by decide, belowQn HB4.out _⟩⟩
            · have hse := hse4.out
              rw [if_neg h5] at hse
              subst hse
              rw [decide_eq_false h5] at HFU
              go_wp2_with fail
              refine HFU.out.mono ?_
              rintro e w5 ⟨rfl, q5, rfl⟩
              go_wp2_with fail
              obtain ⟨w5, hw5⟩ : ∃ W, w4.drewN q5 = W := ⟨_, rfl⟩
              have hb5 : Below w.heap.size w w5 := by rw [← hw5]; exact belowQn HB4.out _
              have hb45 : Below w4.heap.size w4 w5 := by rw [← hw5]; exact belowQn (Below.refl _ _) _
              have hq5 := HQ4.out.below hb45
              have hx5 : ReqB w5 bx (.int .i64 id) (.int .i64 bs) (.slice A m c) := row_belowQ HX4.out hb45
              have X5 := hx5.facts
              have hown := qown_any ⟨id, bs, A, c, l⟩ w5.drew (HX.out.below (hb5.drew)) HSM.out (show 0 < l.length by have := HM.out; omega)
              unfold QX.v at hown
              simp only [HM.out] at hown
              have HOWN := Lib.hid hown
              have HQ5 := Lib.hid hq5
              have HX5 := Lib.hid hx5
              have HB5 := Lib.hid hb5
              have hw5s := hb5.size
              have hbx5 : bx < w5.heap.size := (Array.getElem?_eq_some_iff.1 hx5).1
              have HNQ := Lib.hid (show bx ≠ qb from fun e => by
                unfold ReqB at hx5
                rw [e, hq5.heap] at hx5; cases hx5)
              have HNV := Lib.hid (show v.ownBlock ≠ some bx from fun e => by
                obtain ⟨_, cur, hc⟩ := HQ.out.waits.far e
                have := (Array.getElem?_eq_some_iff.1 hc).1
                have := HBX.out
                omega)
              have hm0 : 0 < l.length := by have := HM.out; omega
              rw [hw5]
              clear hw5 hb5 hb45 hq5 hx5 hown
              refine wp_region_held_drew (S := (fun w' => w'.cell? ⟨bx, 0, none⟩ = some (.int .i64 id) ∧ w'.cell? ⟨bx, 1, none⟩ = some (.int .i64 bs) ∧ w'.cell? ⟨bx, 2, none⟩ = some (.slice A m c))) (by kernel_rfl) ⟨X5.1, X5.2.1, X5.2.2.1⟩ (fun hHeld => ?_)
              refine wpAnyH_take (i := 0) (v := ?vs0) rfl (by kernel_rfl) (by kernel_rfl) (by kernel_rfl) (fun _ _ _ h => h) (Or.inl ⟨by rfl, ?ys0⟩) (by assumption) ?rs0
              case ys0 =>
                intro w hSw
                (try dsimp only at hSw)
                go_simp
                first | done | with_reducible rfl
              try simp only [Act.put, List.getElem_toArray, List.getElem_cons_zero, List.setIfInBounds_toArray, List.set_cons_zero, List.set_cons_succ]
              refine wpAnyH_take (i := 1) (v := ?vs1) rfl (by kernel_rfl) (by kernel_rfl) (by kernel_rfl) (fun _ _ _ h => h) (Or.inl ⟨by rfl, ?ys1⟩) (by assumption) ?rs1
              case ys1 =>
                intro w hSw
                (try dsimp only at hSw)
                go_simp
                first | done | with_reducible rfl
              try simp only [Act.put, List.getElem_toArray, List.getElem_cons_zero, List.getElem_cons_succ, List.setIfInBounds_toArray, List.set_cons_zero, List.set_cons_succ]
              refine wpAnyH_take (i := 2) (v := ?vs2) rfl (by kernel_rfl) (by kernel_rfl) (by kernel_rfl) (fun _ _ _ h => h) (Or.inl ⟨by rfl, ?ys2⟩) (by assumption) ?rs2
              case ys2 =>
                intro w hSw
                (try dsimp only at hSw)
                go_simp
                first | done | with_reducible rfl
              try simp only [Act.put, List.getElem_toArray, List.getElem_cons_zero, List.getElem_cons_succ, List.setIfInBounds_toArray, List.set_cons_zero, List.set_cons_succ]
              refine wpAnyH_take (i := 3) (v := ?vs3) rfl (by kernel_rfl) (by kernel_rfl) (by kernel_rfl) (fun _ _ _ h => h) (Or.inl ⟨by rfl, ?ys3⟩) (by assumption) ?rs3
              case ys3 =>
                intro w hSw
                (try dsimp only at hSw)
                go_simp
                first | done | with_reducible rfl
              try simp only [Act.put, List.getElem_toArray, List.getElem_cons_zero, List.getElem_cons_succ, List.setIfInBounds_toArray, List.set_cons_zero, List.set_cons_succ]
              refine wpAnyH_ready (rs := [4]) (by kernel_rfl) (by simp) ?_
              refine AllReadyH.cons rfl (fun K hK => ?_) AllReadyH.nil
              go_simp
              refine HOWN.out.mono ?_
              rintro e w6 ⟨y, rfl, hy1, hy2, hy3, hyd, hb6⟩
              have hb6' : Below w5.heap.size w5 w6 := (Below.refl _ _).drew.trans hb6
              have hx6 := (hb6'.block bx hbx5).trans HX5.out
              have HY := Lib.hid (show y.id = id ∧ y.base = bs ∧ y.l.map DX.dl = l.map DX.dl from ⟨hy1, hy2, hy3⟩)
              have hq6 := HQ5.out.below hb6'
              have hyl : y.l.length = l.length := by have := congrArg List.length hy3; simpa using this
              have hjo := join_any hq6 y (by have := hb6'.size; omega) (hyd.lowerQ (by show base ≤ w5.heap.size; omega)) (small_dl hy3 HSM.out) (by rw [hyl]; omega) hR
              have HJO := Lib.hid hjo
              have HB6 := Lib.hid hb6'
              have HX6 := Lib.hid hx6
              have hbx6 : bx < w6.heap.size := (Array.getElem?_eq_some_iff.1 hx6).1
              have hHeld := (show _ ∧ _ ∧ _ from ⟨cell_of_row _ bx 0 _ _ _ hx6, cell_of_row _ bx 1 _ _ _ hx6, cell_of_row _ bx 2 _ _ _ hx6⟩)
              clear hb6 hb6' hx6 hq6 hjo hy1 hy2 hy3 hyd hyl
              refine hK.out _ _ hHeld (fun hHeld => ?_)
              clear hK K
              try simp only [Act.put, List.getElem_toArray, List.getElem_cons_zero, List.getElem_cons_succ, List.setIfInBounds_toArray, List.set_cons_zero, List.set_cons_succ]
              refine wpAnyH_ready (rs := [5]) (by kernel_rfl) (by simp) ?_
              refine AllReadyH.cons rfl (fun K hK => ?_) AllReadyH.nil
              go_simp
              refine HJO.out.mono ?_
              rintro e w7 ⟨v7, rfl, hq7, ht7, hv7⟩
              have hx7 := (ht7.block bx hbx6 (fun h => h.elim (fun e => HNQ.out e) (fun e => HNV.out e))).trans HX6.out
              have HQ7 := Lib.hid hq7
              have HT7 := Lib.hid ht7
              have HV7 := Lib.hid hv7
              have hHeld := (show _ ∧ _ ∧ _ from ⟨cell_of_row _ bx 0 _ _ _ hx7, cell_of_row _ bx 1 _ _ _ hx7, cell_of_row _ bx 2 _ _ _ hx7⟩)
              clear hq7 ht7 hv7 hx7
              refine hK.out _ _ hHeld (fun hHeld => ?_)
              clear hK K
              try simp only [Act.put, List.getElem_toArray, List.getElem_cons_zero, List.getElem_cons_succ, List.setIfInBounds_toArray, List.set_cons_zero, List.set_cons_succ]
              refine wpAnyH_done (by kernel_rfl) ?_ _
              go_wp2_with fail
              go_ret
              have hbw6 := HB5.out.trans (HB6.out.mono HB5.out.size)
              refine ⟨rfl, ⟨v7, y, HQ7.out, HY.out, (QTurn.of_below (S := fun j => j = qb ∨ v.ownBlock = some j) hbw6).trans HT7.out (fun j hj _ => hj), fun j hj => ?_⟩⟩
              rcases HV7.out j hj with e | e
              · exact .inl e
              · exact .inr (Nat.le_trans hbw6.size e)
end Go.Proofs.YtnkfnmkbfnhmfaaGreatDoor
