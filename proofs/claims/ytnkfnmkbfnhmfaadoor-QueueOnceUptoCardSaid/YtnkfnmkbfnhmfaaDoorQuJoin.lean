/-
  What a queue's calls turn; a request that joins those that wait. (gen_qujoin.py)
-/
import Derived.Test.YtnkfnmkbfnhmfaaDoorQuW
import Derived.Test.YtnkfnmkbfnhmfaaDoorLast
import Derived.Deep.AppendLies
namespace Go.Proofs.YtnkfnmkbfnhmfaaDoor
open Go Go.RowKit Go.Shelf Go.Proofs Go.ChangeMaps Go.Maps Go.WideMaps
attribute [local go_sem] Oper.semAt_some

/-- Of what there was, only blocks of S turned. -/
structure QTurn (S : Nat → Prop) (w w' : World) : Prop where
  os : w'.os = w.os
  tape : w'.tape = w.tape
  output : w'.output = w.output
  size : w.heap.size ≤ w'.heap.size
  block : ∀ j, j < w.heap.size → ¬ S j → w'.heap[j]? = w.heap[j]?
theorem QTurn.of_below {S : Nat → Prop} {w w' : World} (h : Below w.heap.size w w') : QTurn S w w' := ⟨h.os, h.tape, h.output, h.size, fun j hj _ => h.block j hj⟩
theorem QTurn.mono {S T : Nat → Prop} {w w' : World} (h : QTurn S w w') (hs : ∀ j, S j → T j) : QTurn T w w' := ⟨h.os, h.tape, h.output, h.size, fun j hj hn => h.block j hj fun hS => hn (hs j hS)⟩
theorem QTurn.trans {S T : Nat → Prop} {a b c : World} (h : QTurn S a b) (k : QTurn T b c) (hs : ∀ j, T j → j < a.heap.size → S j) : QTurn S a c :=
  ⟨k.os.trans h.os, k.tape.trans h.tape, k.output.trans h.output, Nat.le_trans h.size k.size, fun j hj hn => (k.block j (Nat.lt_of_lt_of_le hj h.size) fun hT => hn (hs j hT hj)).trans (h.block j hj hn)⟩
theorem QTurn.below {S : Nat → Prop} {w w' : World} {n : Nat} (h : QTurn S w w') (hs : ∀ j, S j → n ≤ j) (hn : n ≤ w.heap.size) : Below n w w' := ⟨h.os, h.tape, h.output, h.size, fun j hj => h.block j (by omega) fun hS => by have := hs j hS; omega⟩
theorem row_belowQ {W W' : World} {b : Nat} {o : Obj} (h : W.heap[b]? = some o) (hb : Below W.heap.size W W') : W'.heap[b]? = some o := (hb.block _ (Array.getElem?_eq_some_iff.1 h).1).trans h
theorem cell_threeQ (w : World) (x y z : Value) (t : TypeId) : ∀ j u, [x, y, z][j]? = some u → (w.alloc (.cells #[x, y, z] t)).cell? ((⟨w.heap.size, 0, none⟩ : Addr).add j) = some u := by
  intro j u hj
  match j, hj with
  | 0, hj => simp at hj; subst hj; simp [Addr.add]
  | 1, hj => simp at hj; subst hj; simp [Addr.add]
  | 2, hj => simp at hj; subst hj; simp [Addr.add]
  | (j + 3), hj => simp at hj
theorem WaitsAt.far {base : Nat} {w : World} {v : Value} {R : List QX} (h : WaitsAt base w v R) {j : Nat} (hv : v.ownBlock = some j) : base ≤ j ∧ ∃ cur : Array Value, w.heap[j]? = some (Obj.cells cur 42 (0, 0)) := rowT_ge h.row hv
set_option maxRecDepth 100000 in
set_option maxHeartbeats 8000000 in
theorem join_any {base : Nat} {w : World} {qb hb ab room : Nat} {v : Value} {R : List QX} {L : List AX} (h : QueueAt base w qb hb ab room v R L) (x : QX) (hbw : base ≤ w.heap.size) (hx : DeltasAt base w (.slice x.A x.l.length x.c) x.l) (hs : SmallD x.l) (h0 : 0 < x.l.length) (hQ : R.length ≤ 100000) :
    Calls Tryd.prog 30 #[.pointer (some ⟨qb, 1, none⟩), x.v] w fun e w' => ∃ v', e = .returned (.tuple #[]) ∧ QueueAt base w' qb hb ab room v' (R ++ [x]) L ∧ QTurn (fun j => j = qb ∨ v.ownBlock = some j) w w' ∧ ∀ j, v'.ownBlock = some j → v.ownBlock = some j ∨ w.heap.size ≤ j := by
  obtain ⟨id, bs, A, c, l⟩ := x
  unfold QX.v
  simp only at hx hs h0
  obtain ⟨n, hn⟩ : ∃ n, l.length = n := ⟨_, rfl⟩
  obtain ⟨bx, hbx⟩ : ∃ b, w.heap.size = b := ⟨_, rfl⟩
  obtain ⟨W1, hW1⟩ : ∃ W, w.alloc (.cells #[.int .i64 id, .int .i64 bs, .slice A n c] 42) = W := ⟨_, rfl⟩
  have hb1 : Below w.heap.size w W1 := by rw [← hW1]; exact (Below.refl _ _).alloc (Nat.le_refl _) _
  have hn1 : W1.heap[bx]? = some (.cells #[.int .i64 id, .int .i64 bs, .slice A n c] 42 (0, 0)) := by rw [← hW1, ← hbx]; exact heap_alloc_new _ _
  have hs1 : W1.heap.size = bx + 1 := by rw [← hW1, ← hbx]; simp
  have hbb : base ≤ W1.heap.size := by omega
  have HS1 := Lib.hid hs1
  have hq1 := h.below hb1
  have hvq : v.ownBlock ≠ some qb := fun e => by
    obtain ⟨_, cur, hc⟩ := h.waits.far e
    rw [h.heap] at hc; cases hc
  have hvx : v.ownBlock ≠ some bx := fun e => by
    obtain ⟨_, cur, hc⟩ := h.waits.far e
    have := (Array.getElem?_eq_some_iff.1 hc).1
    omega
  obtain ⟨qi, hi, hz0, hz1, hz2⟩ := info_parts request_info
  have HI := Lib.hid hi
  have HZ0 := Lib.hid hz0
  have HQB := Lib.hid (show W1.drew.heap[qb]? = _ from hq1.heap)
  have HN1 := Lib.hid (show W1.drew.heap[bx]? = _ from hn1)
  have HROW := Lib.hid (show W1.drew.ownsRow base 42 3 v R.length (qcells R) from hq1.waits.row)
  have HVQ := Lib.hid hvq
  have HVX := Lib.hid hvx
  have HQ1 := Lib.hid hq1
  have HH := Lib.hid h
  have HX := Lib.hid hx
  have HB1 := Lib.hid hb1
  have HW1 := Lib.hid hW1
  have HBX := Lib.hid hbx
  have HNL := Lib.hid hn
  have HS := Lib.hid hs
  have h0' := h0
  have hHeld := (show _ ∧ _ ∧ _ ∧ _ from ⟨cell_of_row W1 qb 1 _ _ _ hq1.heap, cell_of_row W1 bx 0 _ _ _ hn1, cell_of_row W1 bx 1 _ _ _ hn1, cell_of_row W1 bx 2 _ _ _ hn1⟩)
  simp only [List.getElem?_toArray, List.getElem?_cons_zero, List.getElem?_cons_succ] at hHeld
  rw [hn]
  clear hi hz0 hvq hvx hq1 h hx hb1 hW1 hbx hn hs hn1 hs1
  go_enter Tryd.func30, Tryd.ntmps30
  go_upto_region 1 with fail
  rw [HBX.out, HW1.out]
  go_wp2_with fail
  refine wp_region_last (fun w' => w'.cell? ⟨qb, 1, none⟩ = some v ∧ w'.cell? ⟨bx, 0, none⟩ = some (.int .i64 id) ∧ w'.cell? ⟨bx, 1, none⟩ = some (.int .i64 bs) ∧ w'.cell? ⟨bx, 2, none⟩ = some (.slice A n c)) 10 (by kernel_rfl) ?_
  refine wpAnyL_take (i := 0) (v := ?vj0) rfl (by kernel_rfl) (by kernel_rfl) (by kernel_rfl) (by kernel_rfl) (by kernel_rfl) (fun _ _ _ h => h) hHeld (Or.inl ⟨by rfl, ?yj0⟩) ?rj0
  case yj0 =>
    intro w hSw
    (try dsimp only at hSw)
    go_simp
    first | done | with_reducible rfl
  try simp only [Act.put, List.getElem_toArray, List.getElem_cons_zero, List.setIfInBounds_toArray, List.set_cons_zero, List.set_cons_succ]
  refine wpAnyL_take (i := 1) (v := ?vj1) rfl (by kernel_rfl) (by kernel_rfl) (by kernel_rfl) (by kernel_rfl) (by kernel_rfl) (fun _ _ _ h => h) hHeld (Or.inl ⟨by rfl, ?yj1⟩) ?rj1
  case yj1 =>
    intro w hSw
    (try dsimp only at hSw)
    go_simp
    first | done | with_reducible rfl
  try simp only [Act.put, List.getElem_toArray, List.getElem_cons_zero, List.getElem_cons_succ, List.setIfInBounds_toArray, List.set_cons_zero, List.set_cons_succ]
  refine wpAnyL_take (i := 2) (v := ?vj2) rfl (by kernel_rfl) (by kernel_rfl) (by kernel_rfl) (by kernel_rfl) (by kernel_rfl) (fun _ _ _ h => h) hHeld (Or.inl ⟨by rfl, ?yj2⟩) ?rj2
  case yj2 =>
    intro w hSw
    (try dsimp only at hSw)
    go_simp
    first | done | with_reducible rfl
  try simp only [Act.put, List.getElem_toArray, List.getElem_cons_zero, List.getElem_cons_succ, List.setIfInBounds_toArray, List.set_cons_zero, List.set_cons_succ]
  refine wpAnyL_take (i := 3) (v := ?vj3) rfl (by kernel_rfl) (by kernel_rfl) (by kernel_rfl) (by kernel_rfl) (by kernel_rfl) (fun _ _ _ h => h) hHeld (Or.inl ⟨by rfl, ?yj3⟩) ?rj3
  case yj3 =>
    intro w hSw
    (try dsimp only at hSw)
    go_simp
    first | done | with_reducible rfl
  try simp only [Act.put, List.getElem_toArray, List.getElem_cons_zero, List.getElem_cons_succ, List.setIfInBounds_toArray, List.set_cons_zero, List.set_cons_succ]
  refine wpAnyL_take (i := 4) (v := ?vj4) rfl (by kernel_rfl) (by kernel_rfl) (by kernel_rfl) (by kernel_rfl) (by kernel_rfl) (fun _ _ _ h => h) hHeld (Or.inl ⟨by rfl, ?yj4⟩) ?rj4
  case yj4 =>
    intro w hSw
    (try dsimp only at hSw)
    go_simp
    first | done | with_reducible rfl
  try simp only [Act.put, List.getElem_toArray, List.getElem_cons_zero, List.getElem_cons_succ, List.setIfInBounds_toArray, List.set_cons_zero, List.set_cons_succ]
  refine wpAnyL_take (i := 5) (v := ?vj5) rfl (by kernel_rfl) (by kernel_rfl) (by kernel_rfl) (by kernel_rfl) (by kernel_rfl) (fun _ _ _ h => h) hHeld (Or.inl ⟨by rfl, ?yj5⟩) ?rj5
  case yj5 =>
    intro w hSw
    (try dsimp only at hSw)
    go_simp
    first | done | with_reducible rfl
  try simp only [Act.put, List.getElem_toArray, List.getElem_cons_zero, List.getElem_cons_succ, List.setIfInBounds_toArray, List.set_cons_zero, List.set_cons_succ]
  refine wpAnyL_one (i := 6) (by kernel_rfl) rfl rfl (fun K hK => ?_)
  go_simp
  have hb8 : Below W1.drew.heap.size W1.drew (W1.drew.alloc (.cells #[.int .i64 id, .int .i64 bs, .slice A n c] 42)) := (Below.refl _ _).alloc (Nat.le_refl _) _
  have hHeld := (show _ ∧ _ ∧ _ ∧ _ from ⟨cell_of_row _ qb 1 _ _ _ (row_belowQ HQB.out hb8), cell_of_row _ bx 0 _ _ _ (row_belowQ HN1.out hb8), cell_of_row _ bx 1 _ _ _ (row_belowQ HN1.out hb8), cell_of_row _ bx 2 _ _ _ (row_belowQ HN1.out hb8)⟩)
  clear hb8
  refine hK.out _ _ (fun _ => hHeld) ?_
  clear hK K
  try simp only [Act.put, List.getElem_toArray, List.getElem_cons_zero, List.getElem_cons_succ, List.setIfInBounds_toArray, List.set_cons_zero, List.set_cons_succ]
  refine wpAnyL_one (i := 7) (by kernel_rfl) rfl rfl (fun K hK => ?_)
  refine wp_append_lies _ (.tmp 8) (.tmp 10) 74 rfl base 42 qi (.agg #[.int .i64 0, .int .i64 0, .slice none 0 0]) 3 40 Tryd.underlying74 HI.out HZ0.out hz1 hz2 rfl (by decide) v R.length (qcells R) rfl (HROW.out.alloc _) ⟨W1.drew.heap.size, 0, none⟩ 1 1 [.int .i64 id, .int .i64 bs, .slice A n c] rfl rfl (cell_threeQ _ _ _ _ _) (by intro u hu; simp only [List.mem_cons, List.mem_nil_iff, or_false] at hu; rcases hu with rfl | rfl | rfl <;> rfl) (by decide) (by unfold maxLen; omega) (by omega) (by show base ≤ (W1.alloc (.cells #[.int .i64 id, .int .i64 bs, .slice A n c] 42)).heap.size; rw [World.size_alloc]; omega) _ rfl ?_
  intro g8 c8 w8 hown8 hgr8 hat8 _
  have hq8 := (hgr8.block qb (by show qb < (W1.alloc (.cells #[.int .i64 id, .int .i64 bs, .slice A n c] 42)).heap.size; rw [World.size_alloc]; have : qb < W1.heap.size := (Array.getElem?_eq_some_iff.1 HQB.out).1; omega) (fun e => HVQ.out e.symm)).trans (row_belowQ HQB.out ((Below.refl _ _).alloc (Nat.le_refl _) _))
  have hx8 := (hgr8.block bx (by show bx < (W1.alloc (.cells #[.int .i64 id, .int .i64 bs, .slice A n c] 42)).heap.size; rw [World.size_alloc]; have : bx < W1.heap.size := (Array.getElem?_eq_some_iff.1 HN1.out).1; omega) (fun e => HVX.out e.symm)).trans (row_belowQ HN1.out ((Below.refl _ _).alloc (Nat.le_refl _) _))
  have e2 : w8.frozen? ⟨qb, 1, none⟩ = false := frozen_of_row w8 qb _ _ _ hq8
  have hHeld := (show _ ∧ _ ∧ _ ∧ _ from ⟨cell_of_row _ qb 1 _ _ _ hq8, cell_of_row _ bx 0 _ _ _ hx8, cell_of_row _ bx 1 _ _ _ hx8, cell_of_row _ bx 2 _ _ _ hx8⟩)
  have d2 := hHeld.1
  have HO8 := Lib.hid hown8
  have HG8 := Lib.hid hgr8
  have HA8 := Lib.hid hat8
  have HQ8 := Lib.hid hq8
  clear hown8 hgr8 hat8 hq8 hx8
  refine hK.out _ _ (fun _ => hHeld) ?_
  clear hK K
  try simp only [Act.put, List.getElem_toArray, List.getElem_cons_zero, List.getElem_cons_succ, List.setIfInBounds_toArray, List.set_cons_zero, List.set_cons_succ]
  refine wpAnyL_one (i := 8) (by kernel_rfl) rfl rfl (fun K hK => ?_)
  go_simp
  refine hK.out _ _ (fun _ => hHeld) ?_
  clear hK K
  try simp only [Act.put, List.getElem_toArray, List.getElem_cons_zero, List.getElem_cons_succ, List.setIfInBounds_toArray, List.set_cons_zero, List.set_cons_succ]
  refine wpAnyL_take (i := 9) (v := ?vj9) rfl (by kernel_rfl) (by kernel_rfl) (by kernel_rfl) (by kernel_rfl) (by kernel_rfl) (fun _ _ _ h => h) hHeld (Or.inl ⟨by rfl, ?yj9⟩) ?rj9
  case yj9 =>
    intro w hSw
    (try dsimp only at hSw)
    go_simp
    first | done | with_reducible rfl
  try simp only [Act.put, List.getElem_toArray, List.getElem_cons_zero, List.getElem_cons_succ, List.setIfInBounds_toArray, List.set_cons_zero, List.set_cons_succ]
  refine wpAnyL_one (i := 10) (by kernel_rfl) rfl rfl (fun K hK => ?_)
  go_simp
  refine hK.out _ _ (fun h => absurd rfl h) ?_
  clear hK K
  try simp only [Act.put, List.getElem_toArray, List.getElem_cons_zero, List.getElem_cons_succ, List.setIfInBounds_toArray, List.set_cons_zero, List.set_cons_succ]
  refine wpAnyL_done (by kernel_rfl) ?_ _
  go_wp2_with fail
  go_end0
  obtain ⟨y, hy⟩ : ∃ y : QX, (⟨id, bs, A, c, l⟩ : QX) = y := ⟨_, rfl⟩
  obtain ⟨v', hv'⟩ : ∃ v', Value.slice (some ⟨g8, 0, none⟩) (R.length + 1) c8 = v' := ⟨_, rfl⟩
  obtain ⟨W9, hW9⟩ : ∃ W, w8.setCell ⟨qb, 1, none⟩ v' = W := ⟨_, rfl⟩
  rw [hv', hW9, hy]
  have hvb : v'.ownBlock = some g8 := by rw [← hv']; rfl
  have o9 : ∀ j, j ≠ qb → W9.heap[j]? = w8.heap[j]? := fun j hj => by rw [← hW9]; exact heap_setCell_other w8 ⟨qb, 1, none⟩ j _ hj
  have hs9 : w8.heap.size ≤ W9.heap.size := by rw [← hW9]; simp [World.setCell]
  have hs8 : W1.heap.size ≤ w8.heap.size := by have h2 : (W1.alloc (.cells #[.int .i64 id, .int .i64 bs, .slice A n c] 42)).heap.size ≤ w8.heap.size := HG8.out.size; rw [World.size_alloc] at h2; omega
  have hqc : w8.heap[qb]? = _ := HQ8.out
  have k8 : ∀ (j : Nat) (o : Obj), W1.heap[j]? = some o → v.ownBlock ≠ some j → w8.heap[j]? = some o := fun j o hj hn =>
    (HG8.out.block j (by have := (Array.getElem?_eq_some_iff.1 hj).1; show j < (W1.alloc _).heap.size; rw [World.size_alloc]; omega) (fun e => hn e.symm)).trans (row_belowQ (show W1.drew.heap[j]? = some o from hj) ((Below.refl _ _).alloc (Nat.le_refl _) _))
  have k9 : ∀ (j : Nat) (o : Obj), W1.heap[j]? = some o → v.ownBlock ≠ some j → j ≠ qb → W9.heap[j]? = some o := fun j o hj hn hq => (o9 j hq).trans (k8 j o hj hn)
  have kt : ∀ (j : Nat) (cur : Array Value) (t : TypeId), t = 51 ∨ t = 5 → W1.heap[j]? = some (.cells cur t (0, 0)) → W9.heap[j]? = W1.heap[j]? := fun j cur t ht hj => (k9 j _ hj (fun e => by
    obtain ⟨_, cur', hc⟩ := HQ1.out.waits.far e
    rw [hj] at hc
    rcases ht with rfl | rfl <;> cases hc) (fun e => by
    subst e
    rw [HQ1.out.heap] at hj
    rcases ht with rfl | rfl <;> cases hj)).trans hj.symm
  have dk : ∀ z : QX, DeltasAt base W1 (.slice z.A z.l.length z.c) z.l → DeltasAt base W9 (.slice z.A z.l.length z.c) z.l := fun z hz =>
    ⟨⟨hz.own.1, hz.own.2.imp (fun h => h) fun ⟨g, cap, cur, hv, hb, hg, r⟩ => ⟨g, cap, cur, hv, hb, (kt g cur _ (.inl rfl) hg).trans hg, r⟩⟩, fun u hu => (hz.bod u hu).keep fun g cur hg => kt g cur _ (.inr rfl) hg⟩
  have hrow9 : W9.ownsRow base 42 3 v' (R ++ [y]).length (qcells (R ++ [y])) := by
    have h1 : w8.ownsRow base 42 3 v' (R.length + 1) (qcells R ++ [.int .i64 id, .int .i64 bs, .slice A n c]) := by rw [← hv']; exact HO8.out
    have e : qcells (R ++ [y]) = qcells R ++ [.int .i64 id, .int .i64 bs, .slice A n c] := by rw [qcells_append, ← hy]; show _ = qcells R ++ _; rw [← HNL.out]; rfl
    rw [e, List.length_append]
    refine ⟨h1.1, h1.2.imp (fun h => h) fun ⟨g, cap, cur, hv, hb, hg, r⟩ => ⟨g, cap, cur, hv, hb, (o9 g (fun e => ?_)).trans hg, r⟩⟩
    subst e
    rw [hqc] at hg; cases hg
  have hq9 : QueueAt base W9 qb hb ab room v' (R ++ [y]) L := by
    refine ⟨by rw [← hW9]; exact heap_setCell_same w8 qb 1 _ _ _ hqc, ⟨hrow9, fun z hz => ?_, fun z hz => ?_⟩, ?_, HQ1.out.lq, HQ1.out.la⟩
    · rcases List.mem_append.1 hz with hz | hz
      · exact dk z (HQ1.out.waits.own z hz)
      · rw [List.mem_singleton] at hz
        subst hz
        exact dk z (by rw [← hy]; exact HX.out.below HB1.out)
    · rcases List.mem_append.1 hz with hz | hz
      · exact HQ1.out.waits.sm z hz
      · rw [List.mem_singleton] at hz
        subst hz
        rw [← hy]; exact ⟨HS.out, h0'⟩
    · obtain ⟨es, ck, he, F, hh, hD⟩ := HQ1.out.ans
      exact ⟨es, ck, k9 ab _ he (fun e => by
        obtain ⟨_, cur', hc⟩ := HQ1.out.waits.far e
        rw [he] at hc; cases hc) (fun e => by
        subst e
        rw [HQ1.out.heap] at he; cases he), F, hh, hD⟩
  have hbx := HBX.out
  refine ⟨v', rfl, hq9, ⟨?_, ?_, ?_, by have := HB1.out.size; omega, fun j hj hn => ?_⟩, fun j hj => ?_⟩
  · rw [← hW9]; exact HG8.out.os.trans HB1.out.os
  · rw [← hW9]; exact HG8.out.tape.trans HB1.out.tape
  · rw [← hW9]; exact HG8.out.output.trans HB1.out.output
  · obtain ⟨o, ho⟩ : ∃ o, W1.heap[j]? = some o := ⟨_, Array.getElem?_eq_getElem (by have := HB1.out.size; omega)⟩
    rw [← HB1.out.block j hj, ho]
    exact k9 j o ho (fun e => hn (.inr e)) (fun e => hn (.inl e))
  · rw [hvb] at hj
    cases hj
    rcases HA8.out with e | e
    · exact .inl e
    · refine .inr ?_
      have h2 := HB1.out.size
      rw [e]
      show w.heap.size ≤ (W1.alloc (.cells #[.int .i64 id, .int .i64 bs, .slice A n c] 42)).heap.size
      rw [World.size_alloc]
      omega
end Go.Proofs.YtnkfnmkbfnhmfaaDoor
