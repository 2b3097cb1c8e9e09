/-
  slices.Delete of the first request; the line's leave. (gen_quleave.py) · The line's leave. (gen_quleave.py)
-/
import Derived.Test.YtnkfnmkbfnhmfaaDoorQuJoin
import Derived.Test.YtnkfnmkbfnhmfaaDoorTGrow
import Derived.Deep.RegionLaw
import Derived.Test.YtnkfnmkbfnhmfaaDoorQuOwn
namespace Go.Proofs.YtnkfnmkbfnhmfaaDoor
open Go Go.RowKit Go.Shelf Go.Proofs Go.ChangeMaps Go.Maps Go.WideMaps
attribute [local go_sem] Oper.semAt_some

theorem zero_request (w : World) : (zeroValue 42).run Tryd.prog w = .ok (.agg #[.int .i64 0, .int .i64 0, .slice none 0 0]) w := by kernel_rfl
def zeroQ : List Value := (Builtin.zeroCells #[.int .i64 0, .int .i64 0, .slice none 0 0] 1).toList
theorem zeroQ_length : zeroQ.length = 3 := by unfold zeroQ; rw [Array.length_toList, size_zeroCells]; rfl
theorem zeroQ_one : ∀ v ∈ zeroQ, v.oneCell' = true := by
  intro v hv
  unfold zeroQ Builtin.zeroCells at hv
  rw [Array.toList_map, List.mem_map] at hv
  obtain ⟨i, _, rfl⟩ := hv
  have : i % (#[Value.int .i64 0, .int .i64 0, .slice none 0 0] : Array Value).size < 3 := Nat.mod_lt _ (by decide)
  generalize i % (#[Value.int .i64 0, .int .i64 0, .slice none 0 0] : Array Value).size = k at this
  match k, this with
  | 0, _ => rfl
  | 1, _ => rfl
  | 2, _ => rfl
/-- 'clear' of one request. -/
theorem run_clear_request (w : World) (ty : TypeId) (b o c : Nat) (hc : ∀ j, j < 3 → (w.cell? ⟨b, o + j, none⟩).isSome = true) (hf : ∀ j, j < 3 → w.frozen? ⟨b, o + j, none⟩ = false) :
    (Builtin.clear_ #[74] ty #[.slice (some ⟨b, o, none⟩) 1 c]).run Tryd.prog w = .ok (.tuple #[]) (w.setCells b o zeroQ) := by
  have hst := run_storeCells_cells (P := Tryd.prog) b o zeroQ 0 w (by rw [zeroQ_length]; simpa using hc) (by rw [zeroQ_length]; simpa using hf) zeroQ_one
  simp only [Nat.add_zero] at hst
  have hst' : (storeCells ⟨b, o, none⟩ (Builtin.zeroCells #[.int .i64 0, .int .i64 0, .slice none 0 0] 1).toList).run Tryd.prog w = .ok () (w.setCells b o zeroQ) := hst
  have hz := zero_request w
  clear hst
  simp [Builtin.clear_, run_underlying Tryd.underlying74, hz, Value.cells, hst']
theorem row_shrink {base e g m n cap : Nat} {w : World} {xs ys : List Value} (h : w.ownsRow base e 3 (.slice (some ⟨g, 0, none⟩) n cap) n (xs ++ ys)) (hx : xs.length = m * 3) (hm : m ≤ n) : w.ownsRow base e 3 (.slice (some ⟨g, 0, none⟩) m cap) m xs := by
  refine ⟨hx, .inr ?_⟩
  rcases h.2 with ⟨h', _⟩ | ⟨g', cap', cur, h', hb, hg, hc, hcm, hs, ht⟩
  · cases h'
  · cases h'
    refine ⟨g, cap, cur, rfl, hb, hg, by omega, hcm, hs, ?_⟩
    have := congrArg (List.take (m * 3)) ht
    rw [List.take_take, Nat.min_eq_left (by omega), ← hx, List.take_left] at this
    rw [← hx]; exact this
set_option maxRecDepth 100000 in
set_option maxHeartbeats 8000000 in
theorem qdelete_any {base : Nat} (x : QX) (T : List QX) (g cap : Nat) (w : World) (h : w.ownsRow base 42 3 (.slice (some ⟨g, 0, none⟩) (T.length + 1) cap) (T.length + 1) (qcells (x :: T))) (hT : T.length ≤ 100000) :
    Calls Tryd.prog 48 #[.slice (some ⟨g, 0, none⟩) (T.length + 1) cap, .int .i64 0, .int .i64 1] w fun e w' => e = .returned (.slice (some ⟨g, 0, none⟩) T.length cap) ∧ w'.ownsRow base 42 3 (.slice (some ⟨g, 0, none⟩) T.length cap) T.length (qcells T) ∧ QTurn (fun j => j = g) w w' := by
  obtain ⟨qi, hi, hz0, hz1, hz2⟩ := info_parts request_info
  obtain ⟨n, hn⟩ : ∃ n, T.length = n := ⟨_, rfl⟩
  obtain ⟨hcap, hcm⟩ : n + 1 ≤ cap ∧ cap ≤ maxLen := by
    rcases h.2 with ⟨h', _⟩ | ⟨g', cap', cur, h', _, _, hc, hcm, _⟩
    · cases h'
    · cases h'; rw [hn] at hc; exact ⟨hc, hcm⟩
  unfold maxLen at hcm
  have hcell : ∀ j u, (qcells (x :: T))[j]? = some u → w.cell? ⟨g, j, none⟩ = some u := fun j u hu => by
    have := World.ownsRow.cells h (g := g) rfl j u hu
    rwa [Go.WideShapes.add_plain, Nat.zero_add] at this
  have hfr : ∀ j, w.frozen? ⟨g, j, none⟩ = false := fun j => by
    obtain ⟨_, cur, hg⟩ := rowT_ge h (g := g) rfl
    exact frozen_of_row w g j _ _ hg
  have hql : (qcells (x :: T)).length = (n + 1) * 3 := by rw [qcells_length, List.length_cons, hn]
  have htl : (qcells T).length = n * 3 := by rw [qcells_length, hn]
  have hsome : ∀ j, j < (n + 1) * 3 → (w.cell? ⟨g, j, none⟩).isSome = true := fun j hj => by
    rw [hcell j _ (List.getElem?_eq_getElem (by rw [hql]; exact hj))]; rfl
  obtain ⟨A, hA, hsrc⟩ : ∃ A : Addr, (if cap = 1 then (some ⟨g, 0, none⟩ : Option Addr) else some ⟨g, 3, none⟩) = some A ∧ Hid (∀ t u, (qcells T)[t]? = some u → w.drew.cell? (A.add t) = some u) := by
    by_cases h1 : cap = 1
    · refine ⟨⟨g, 0, none⟩, by simp [h1], fun t u hu => ?_⟩
      have := (List.getElem?_eq_some_iff.1 hu).1
      rw [htl] at this
      omega
    · refine ⟨⟨g, 3, none⟩, by simp [h1], fun t u hu => ?_⟩
      rw [Go.WideShapes.add_plain]
      show w.cell? _ = _
      refine hcell (3 + t) u ?_
      rw [qcells_cons, show 3 + t = t + 1 + 1 + 1 from by omega]
      simpa using hu
  have s1 : Hid ((qcells T).length = n * 3) := htl
  have s2 : Hid (∀ u ∈ qcells T, u.oneCell' = true) := qcells_one T
  have s3 : Hid (∀ t, t < (qcells T).length → (w.drew.cell? ⟨g, 0 + 0 * 3 + t, none⟩).isSome = true ∧ w.drew.frozen? ⟨g, 0 + 0 * 3 + t, none⟩ = false) := by
    intro t ht
    rw [htl] at ht
    rw [show 0 + 0 * 3 + t = t by omega]
    exact ⟨hsome t (by omega), hfr t⟩
  obtain ⟨W1, hW1⟩ : ∃ W1, W1 = w.drew.setCells g (0 + 0 * 3) (qcells T) := ⟨_, rfl⟩
  have hrow1 : W1.ownsRow base 42 3 (.slice (some ⟨g, 0, none⟩) (n + 1) cap) (n + 1) ((qcells (x :: T)).take 0 ++ qcells T ++ (qcells (x :: T)).drop (0 + (qcells T).length)) := by
    rw [hW1]
    refine own_setCells (qcells T) 0 w.drew (qcells (x :: T)) ?_ (by rw [htl, hql]; omega)
    rw [← hn]; exact h
  have hcl : ∀ ty, (Builtin.clear_ #[74] ty #[.slice (some ⟨g, n * 3, none⟩) 1 (cap - n)]).run Tryd.prog W1 = .ok (.tuple #[]) (W1.setCells g (n * 3) zeroQ) := fun ty =>
    run_clear_request W1 ty g (n * 3) (cap - n) (fun j hj => by rw [hW1]; exact World.isSome_setCells g _ _ _ _ (hsome (n * 3 + j) (by omega))) (fun j hj => by rw [hW1, World.frozen?_setCells]; exact hfr _)
  have hrow2 : (W1.setCells g (n * 3) zeroQ).ownsRow base 42 3 (.slice (some ⟨g, 0, none⟩) n cap) n (qcells T) := by
    have hl1 : ((qcells (x :: T)).take 0 ++ qcells T ++ (qcells (x :: T)).drop (0 + (qcells T).length)).length = (n + 1) * 3 := by simp [htl, hql]; omega
    have := own_setCells zeroQ (n * 3) W1 _ hrow1 (by rw [hl1, zeroQ_length]; omega)
    have e1 : ((qcells (x :: T)).take 0 ++ qcells T ++ (qcells (x :: T)).drop (0 + (qcells T).length)).take (n * 3) = qcells T := by
      rw [List.take_zero, List.nil_append, ← htl, List.take_left]
    rw [e1, List.append_assoc] at this
    exact row_shrink this htl (by omega)
  have hturn : QTurn (fun j => j = g) w (W1.setCells g (n * 3) zeroQ) := by
    have a1 : w.drew.grownBy W1 (some g) := by rw [hW1]; exact grown_setCells _ _
    have a2 : W1.grownBy (W1.setCells g (n * 3) zeroQ) (some g) := grown_setCells _ _
    refine ⟨a2.os.trans a1.os, a2.tape.trans a1.tape, a2.output.trans a1.output, Nat.le_trans a1.size a2.size, fun j hj hne => ?_⟩
    exact (a2.block j (Nat.lt_of_lt_of_le hj a1.size) (fun e => hne (by simpa using e))).trans (a1.block j hj (fun e => hne (by simpa using e)))
  have HI := Lib.hid hi
  have HZ1 := Lib.hid hz1
  have HW1 := Lib.hid hW1
  have HROW2 := Lib.hid hrow2
  have HTURN := Lib.hid hturn
  have HN := Lib.hid hn
  rw [hn] at hT ⊢
  have c1 : 1 ≤ cap := by omega
  have c3 : (1 : Int) ≤ (n : Int) + 1 := by omega
  have c2 : n ≤ cap := by omega
  clear h hi hz0 hz1 hz2 hcell hfr hql htl hsome hW1 hrow1 hrow2 hturn hn
  go_enter Tryd.func48, Tryd.ntmps48
  go_wp2_with fail
  go_region_law (refine step_append_room rfl (.tmp 22) (.tmp 25) 74 rfl 42 qi 3 Tryd.underlying74 HI.out HZ1.out g 0 0 cap (by simp [Act.eval, Act.put]) A n (cap - 1) (qcells T) (by simp [Act.eval, Act.put]) s1.out hsrc.out s2.out (by omega) s3.out ?_; rw [← HW1.out])
  have hne : ¬ cap = n := by omega
  have hne2 : ¬ (cap : Int) = (n : Int) := by omega
  have e1 : n + 1 - n = 1 := by omega
  have c4 : (n : Int) ≤ (n : Int) + 1 := by omega
  have c5 : (n : Int) + 1 ≤ (cap : Int) := by omega
  clear s1 s2 s3 hsrc
  go_wp2_with fail
  go_ret
  exact ⟨rfl, HROW2.out, HTURN.out⟩
end Go.Proofs.YtnkfnmkbfnhmfaaDoor
namespace Go.Proofs.YtnkfnmkbfnhmfaaDoor
open Go Go.RowKit Go.Shelf Go.Proofs Go.ChangeMaps Go.Maps Go.WideMaps
attribute [local go_sem] Oper.semAt_some

def ReqB (W : World) (b : Nat) (x y z : Value) : Prop := W.heap[b]? = some (.cells #[x, y, z] 42 (0, 0))
theorem ReqB.facts {W : World} {b : Nat} {x y z : Value} (h : ReqB W b x y z) : W.cell? ⟨b, 0, none⟩ = some x ∧ W.cell? ⟨b, 1, none⟩ = some y ∧ W.cell? ⟨b, 2, none⟩ = some z ∧ W.frozen? ⟨b, 0, none⟩ = false ∧ W.frozen? ⟨b, 1, none⟩ = false ∧ W.frozen? ⟨b, 2, none⟩ = false :=
  ⟨cell_of_row W b 0 _ _ _ h, cell_of_row W b 1 _ _ _ h, cell_of_row W b 2 _ _ _ h, frozen_of_row W b 0 _ _ h, frozen_of_row W b 1 _ _ h, frozen_of_row W b 2 _ _ h⟩
/-- A request stored whole. -/
theorem ReqB.store {W : World} {b : Nat} {x y z x' y' z' : Value} (h : ReqB W b x y z) : ReqB (((W.setCell ⟨b, 0, none⟩ x').setCell ⟨b, 1, none⟩ y').setCell ⟨b, 2, none⟩ z') b x' y' z' ∧ W.grownBy (((W.setCell ⟨b, 0, none⟩ x').setCell ⟨b, 1, none⟩ y').setCell ⟨b, 2, none⟩ z') (some b) := by
  have h1 := heap_setCell_same W b 0 _ _ x' h
  have h2 := heap_setCell_same _ b 1 _ _ y' h1
  have h3 := heap_setCell_same _ b 2 _ _ z' h2
  refine ⟨h3, ⟨rfl, rfl, rfl, by simp [World.setCell], fun q hq hne => ?_⟩⟩
  have hne : q ≠ b := fun e => hne (by rw [e])
  exact (heap_setCell_other _ ⟨b, 2, none⟩ q _ hne).trans ((heap_setCell_other _ ⟨b, 1, none⟩ q _ hne).trans (heap_setCell_other _ ⟨b, 0, none⟩ q _ hne))
theorem results_cq {P : Program} {fn : Func} {p u : Tmp} {ty : TypeId} (h : fn.results = #[.cell p ty, .tmp u]) (tmps : Array Value) (w : World) (g : Nat) (t : TypeId) (cs : Array Value) (fr : Nat × Nat) (d : TypeDesc)
    (v : Value) (hp : tmps.getD p undef = .pointer (some ⟨g, 0, none⟩)) (hv : tmps.getD u undef = v) (hg : w.heap[g]? = some (.cells cs t fr))
    (hu : P.underlying ty = some d) (hd : (match d with | .struct _ | .array _ _ => true | _ => false) = true) (hi : (P.info? ty).map (·.size) = some cs.size) :
    (results fn tmps).run P w = .ok (.tuple #[.agg cs, v]) w := by
  subst hv
  have hp' : tmps[p]?.getD undef = .pointer (some ⟨g, 0, none⟩) := by simpa using hp
  simp [results, h, hp', asAddr, run_loadVar_row w g t ty cs fr d hg hu hd hi]
theorem QTurn.of_grown {w w' : World} {row : Option Nat} (h : w.grownBy w' row) : QTurn (fun j => row = some j) w w' := ⟨h.os, h.tape, h.output, h.size, fun j hj hn => h.block j hj (fun e => hn e.symm)⟩
set_option maxRecDepth 100000 in
set_option maxHeartbeats 8000000 in
theorem leave_none {base : Nat} {w : World} {qb hb ab room : Nat} {v : Value} {L : List AX} (h : QueueAt base w qb hb ab room v [] L) :
    Calls Tryd.prog 32 #[.pointer (some ⟨qb, 1, none⟩)] w fun e w' => e = .returned (.tuple #[.agg #[.int .i64 0, .int .i64 0, .slice none 0 0], .bool false]) ∧ Below w.heap.size w w' := by
  obtain ⟨A, c, rfl, -, -, -, -⟩ := h.waits.slice
  have HQ := Lib.hid h
  obtain ⟨b1, hb1⟩ : ∃ b, w.heap.size = b := ⟨_, rfl⟩
  obtain ⟨W1, hW1⟩ : ∃ W, w.alloc (.cells #[.int .i64 0, .int .i64 0, .slice none 0 0] 42) = W := ⟨_, rfl⟩
  have s1 : W1.heap.size = b1 + 1 := by rw [← hW1, ← hb1]; simp
  obtain ⟨W2, hW2⟩ : ∃ W, W1.alloc (.cells #[.int .i64 0, .int .i64 0, .slice none 0 0] 42) = W := ⟨_, rfl⟩
  have r1 : ReqB W2 b1 (.int .i64 0) (.int .i64 0) (.slice none 0 0) := by
    unfold ReqB
    rw [← hW2]
    refine (Below.heap_alloc _ _ _ (by omega)).trans ?_
    rw [← hW1, ← hb1]; exact heap_alloc_new _ _
  have r2 : ReqB W2 (b1 + 1) (.int .i64 0) (.int .i64 0) (.slice none 0 0) := by unfold ReqB; rw [← hW2, ← s1]; exact heap_alloc_new _ _
  have hb2 : Below w.heap.size w W2 := by rw [← hW2, ← hW1]; exact ((Below.refl _ _).alloc (Nat.le_refl _) _).alloc (by simp) _
  have c1 : W2.cell? ⟨qb, 1, none⟩ = some (.slice A 0 c) := cell_of_row W2 qb 1 _ _ _ (h.below hb2).heap
  obtain ⟨x0, x1, x2, x3, x4, x5⟩ := r1.facts
  obtain ⟨y0, y1, y2, y3, y4, y5⟩ := r2.facts
  have HB2 := Lib.hid hb2
  have HW1 := Lib.hid hW1
  have HW2 := Lib.hid hW2
  have HB1 := Lib.hid hb1
  have HS1 := Lib.hid s1
  have R1 := Lib.hid r1
  clear h hb1 hW1 hW2 hb2 s1 r1 r2
  go_enter Tryd.func32, Tryd.ntmps32
  go_upto_region 2 with fail
  rw [HB1.out, HW1.out, HW2.out]
  go_wp2_with fail
  obtain ⟨hr3, hg3⟩ := R1.out.store (x' := .int .i64 0) (y' := .int .i64 0) (z' := .slice none 0 0)
  exact bodyPost_ret (results_cq rfl _ _ b1 _ _ (0, 0) _ (.bool false) rfl rfl hr3 Tryd.underlying42 rfl (by kernel_rfl)) rfl ⟨rfl, HB2.out.grown hg3 HB2.out.size (fun k e => by have := HB1.out; cases e; omega)⟩
set_option maxRecDepth 100000 in
set_option maxHeartbeats 8000000 in
theorem leave_any {base : Nat} {w : World} {qb hb ab room : Nat} {v : Value} {x : QX} {T : List QX} {L : List AX} (h : QueueAt base w qb hb ab room v (x :: T) L) (hT : T.length ≤ 100000) (_hbw : base ≤ w.heap.size) :
    Calls Tryd.prog 32 #[.pointer (some ⟨qb, 1, none⟩)] w fun e w' => ∃ v', e = .returned (.tuple #[x.v, .bool true]) ∧ QueueAt base w' qb hb ab room v' T L ∧ DeltasAt base w' (.slice x.A x.l.length x.c) x.l ∧ QTurn (fun j => j = qb ∨ v.ownBlock = some j) w w' ∧ v'.ownBlock = v.ownBlock := by
  obtain ⟨g, c, hv, hgb, -⟩ := h.waits.row.form (by simp)
  rw [List.length_cons] at hv
  subst hv
  have HQ := Lib.hid h
  obtain ⟨b1, hb1⟩ : ∃ b, w.heap.size = b := ⟨_, rfl⟩
  obtain ⟨W1, hW1⟩ : ∃ W, w.alloc (.cells #[.int .i64 0, .int .i64 0, .slice none 0 0] 42) = W := ⟨_, rfl⟩
  have s1 : W1.heap.size = b1 + 1 := by rw [← hW1, ← hb1]; simp
  obtain ⟨W2, hW2⟩ : ∃ W, W1.alloc (.cells #[.int .i64 0, .int .i64 0, .slice none 0 0] 42) = W := ⟨_, rfl⟩
  have s2 : W2.heap.size = b1 + 2 := by rw [← hW2]; simp [s1]
  have r1 : ReqB W2 b1 (.int .i64 0) (.int .i64 0) (.slice none 0 0) := by
    unfold ReqB
    rw [← hW2]
    refine (Below.heap_alloc _ _ _ (by omega)).trans ?_
    rw [← hW1, ← hb1]; exact heap_alloc_new _ _
  have r2 : ReqB W2 (b1 + 1) (.int .i64 0) (.int .i64 0) (.slice none 0 0) := by unfold ReqB; rw [← hW2, ← s1]; exact heap_alloc_new _ _
  have hb2 : Below w.heap.size w W2 := by rw [← hW2, ← hW1]; exact ((Below.refl _ _).alloc (Nat.le_refl _) _).alloc (by simp) _
  have hq2 := h.below hb2
  have c1 : W2.cell? ⟨qb, 1, none⟩ = some (.slice (some ⟨g, 0, none⟩) (T.length + 1) c) := cell_of_row W2 qb 1 _ _ _ hq2.heap
  obtain ⟨a0, a1, a2⟩ := qcells_at (x :: T) 0 x rfl
  have q0 := World.ownsRow.cells hq2.waits.row (g := g) rfl _ _ a0
  have q1 := World.ownsRow.cells hq2.waits.row (g := g) rfl _ _ a1
  have q2 := World.ownsRow.cells hq2.waits.row (g := g) rfl _ _ a2
  rw [Go.WideShapes.add_plain] at q0 q1 q2
  simp only [Nat.zero_mul, Nat.zero_add, Nat.add_zero] at q0 q1 q2
  obtain ⟨y0, y1, y2, y3, y4, y5⟩ := r2.facts
  have hgw : g < w.heap.size := by
    obtain ⟨_, cur, hc⟩ := h.waits.far (j := g) rfl
    exact (Array.getElem?_eq_some_iff.1 hc).1
  have hqw : qb < w.heap.size := (Array.getElem?_eq_some_iff.1 h.heap).1
  obtain ⟨r3, g3⟩ := r2.store (x' := .int .i64 x.id) (y' := .int .i64 x.base) (z' := .slice x.A x.l.length x.c)
  obtain ⟨W3, hW3⟩ : ∃ W, ((W2.setCell ⟨b1 + 1, 0, none⟩ (.int .i64 x.id)).setCell ⟨b1 + 1, 1, none⟩ (.int .i64 x.base)).setCell ⟨b1 + 1, 2, none⟩ (.slice x.A x.l.length x.c) = W := ⟨_, rfl⟩
  rw [hW3] at r3 g3
  have hb3 : Below w.heap.size w W3 := hb2.grown g3 hb2.size (fun k e => by cases e; omega)
  have hq3 := h.below hb3
  have r13 : ReqB W3 b1 (.int .i64 0) (.int .i64 0) (.slice none 0 0) := (g3.block b1 (by omega) (by simp)).trans r1
  have e1 : W3.cell? ⟨qb, 1, none⟩ = some (.slice (some ⟨g, 0, none⟩) (T.length + 1) c) := cell_of_row W3 qb 1 _ _ _ hq3.heap
  have HDEL := Lib.hid (qdelete_any x T g c W3 (by have := hq3.waits.row; rwa [List.length_cons] at this) hT)
  have s3 : b1 + 2 ≤ W3.heap.size := by have := g3.size; omega
  have HB3 := Lib.hid hb3
  have HQ3 := Lib.hid hq3
  have R3 := Lib.hid r3
  have R13 := Lib.hid r13
  have HW1 := Lib.hid hW1
  have HW2 := Lib.hid hW2
  have HW3 := Lib.hid hW3
  have HB1 := Lib.hid hb1
  obtain ⟨n, hn⟩ : ∃ n, T.length = n := ⟨_, rfl⟩
  have HN := Lib.hid hn
  rw [hn] at c1 e1 HDEL hT
  clear h hb1 hW1 hW2 hW3 hb2 hb3 s1 s2 r1 r2 r3 r13 g3 hq2 hq3 a0 a1 a2 hn
  go_enter Tryd.func32, Tryd.ntmps32
  go_upto_region 2 with fail
  rw [HB1.out, HW1.out, HW2.out]
  go_upto_region 5 with fail
  rw [HW3.out]
  clear c1 q0 q1 q2 y0 y1 y2 y3 y4 y5
  go_wp2_with fail
  refine HDEL.out.mono ?_
  rintro e w4 ⟨rfl, hrow4, ht4⟩
  have hbv := HB1.out
  have hgq : g ≠ qb := fun e => by
    obtain ⟨_, cur, hc⟩ := HQ.out.waits.far (j := g) rfl
    rw [e, HQ.out.heap] at hc; cases hc
  have hqb4 : w4.heap[qb]? = _ := (ht4.block qb (by omega) (fun e => hgq e.symm)).trans HQ3.out.heap
  have r4 : ReqB w4 (b1 + 1) (.int .i64 x.id) (.int .i64 x.base) (.slice x.A x.l.length x.c) := (ht4.block (b1 + 1) (by omega) (by omega)).trans R3.out
  have r14 : ReqB w4 b1 (.int .i64 0) (.int .i64 0) (.slice none 0 0) := (ht4.block b1 (by omega) (by omega)).trans R13.out
  have f1 : w4.frozen? ⟨qb, 1, none⟩ = false := frozen_of_row w4 qb 1 _ _ hqb4
  have f2 : w4.cell? ⟨qb, 1, none⟩ = some (.slice (some ⟨g, 0, none⟩) (n + 1) c) := by rw [cell_of_row w4 qb 1 _ _ _ hqb4]; simp [HN.out]
  obtain ⟨W5, hW5⟩ : ∃ W, w4.setCell ⟨qb, 1, none⟩ (.slice (some ⟨g, 0, none⟩) n c) = W := ⟨_, rfl⟩
  have o5 : ∀ j, j ≠ qb → W5.heap[j]? = w4.heap[j]? := fun j hj => by rw [← hW5]; exact heap_setCell_other w4 ⟨qb, 1, none⟩ j _ hj
  have hqb5 : W5.heap[qb]? = some (.cells #[.pointer (some ⟨hb, 0, none⟩), .slice (some ⟨g, 0, none⟩) n c, .int .i64 room, .map (some ab)] 79 (0, 0)) := by rw [← hW5]; exact heap_setCell_same w4 qb 1 _ _ _ hqb4
  have r5 : ReqB W5 (b1 + 1) (.int .i64 x.id) (.int .i64 x.base) (.slice x.A x.l.length x.c) := (o5 (b1 + 1) (by omega)).trans r4
  have r15 : ReqB W5 b1 (.int .i64 0) (.int .i64 0) (.slice none 0 0) := (o5 b1 (by omega)).trans r14
  have hs5 : w4.heap.size = W5.heap.size := by rw [← hW5]; simp [World.setCell]
  obtain ⟨y0, y1, y2, y3, y4, y5⟩ := r5.facts
  obtain ⟨x0, x1, x2, x3, x4, x5⟩ := r15.facts
  have t5 : QTurn (fun j => j = qb ∨ j = g) w4 W5 := ⟨by rw [← hW5]; rfl, by rw [← hW5]; rfl, by rw [← hW5]; rfl, by omega, fun j _ hn => o5 j (fun e => hn (.inl e))⟩
  have HW5 := Lib.hid hW5
  have HQB5 := Lib.hid hqb5
  have R15 := Lib.hid r15
  have HO5 := Lib.hid o5
  have HROW4 := Lib.hid hrow4
  have HT4 := Lib.hid ht4
  have HT5 := Lib.hid t5
  have hs4 := ht4.size
  clear hW5 hqb5 r5 r15 o5 hrow4 ht4 t5 r4 r14 hqb4
  go_upto_region 6 with fail
  rw [HW5.out]
  clear f1 f2 e1
  go_wp2_with fail
  obtain ⟨r6, g6⟩ := R15.out.store (x' := .int .i64 x.id) (y' := .int .i64 x.base) (z' := .slice x.A x.l.length x.c)
  obtain ⟨W6, hW6⟩ : ∃ W, ((W5.setCell ⟨b1, 0, none⟩ (.int .i64 x.id)).setCell ⟨b1, 1, none⟩ (.int .i64 x.base)).setCell ⟨b1, 2, none⟩ (.slice x.A x.l.length x.c) = W := ⟨_, rfl⟩
  rw [hW6] at r6 g6 ⊢
  have k6 : ∀ (j : Nat) (o : Obj), w.heap[j]? = some o → j ≠ qb → j ≠ g → W6.heap[j]? = some o := fun j o ho h1 h2 => by
    have hj := (Array.getElem?_eq_some_iff.1 ho).1
    have hz := HB3.out.size
    exact (g6.block j (by omega) (by simp; omega)).trans ((HO5.out j h1).trans ((HT4.out.block j (by omega) h2).trans ((HB3.out.block j hj).trans ho)))
  have kt : ∀ (j : Nat) (cur : Array Value) (t : TypeId), t = 51 ∨ t = 5 → w.heap[j]? = some (.cells cur t (0, 0)) → W6.heap[j]? = w.heap[j]? := fun j cur t ht hj => (k6 j _ hj (fun e => by
    subst e
    rw [HQ.out.heap] at hj
    rcases ht with rfl | rfl <;> cases hj) (fun e => by
    obtain ⟨_, cur', hc⟩ := HQ.out.waits.far (j := g) rfl
    subst e
    rw [hj] at hc
    rcases ht with rfl | rfl <;> cases hc)).trans hj.symm
  have dk : ∀ z : QX, DeltasAt base w (.slice z.A z.l.length z.c) z.l → DeltasAt base W6 (.slice z.A z.l.length z.c) z.l := fun z hz =>
    ⟨⟨hz.own.1, hz.own.2.imp (fun h => h) fun ⟨g, cap, cur, hv, hb, hg, r⟩ => ⟨g, cap, cur, hv, hb, (kt g cur _ (.inl rfl) hg).trans hg, r⟩⟩, fun u hu => (hz.bod u hu).keep fun g cur hg => kt g cur _ (.inr rfl) hg⟩
  have hq6 : QueueAt base W6 qb hb ab room (.slice (some ⟨g, 0, none⟩) n c) T L := by
    refine ⟨(g6.block qb (by omega) (by simp; omega)).trans HQB5.out, ⟨?_, fun z hz => dk z (HQ.out.waits.own z (List.mem_cons_of_mem _ hz)), fun z hz => HQ.out.waits.sm z (List.mem_cons_of_mem _ hz)⟩, ?_, HQ.out.lq, HQ.out.la⟩
    · have h4 := HROW4.out
      rw [HN.out]
      refine ⟨h4.1, h4.2.imp (fun h => h) fun ⟨g', cap, cur, hv, hb', hg, r⟩ => ⟨g', cap, cur, hv, hb', ?_, r⟩⟩
      have : g' = g := by cases hv; rfl
      subst this
      have hz := HB3.out.size
      exact (g6.block g' (by omega) (by simp; omega)).trans ((HO5.out g' hgq).trans hg)
    · obtain ⟨es, ck, he, F, hh, hD⟩ := HQ.out.ans
      exact ⟨es, ck, k6 ab _ he (fun e => by
        subst e
        rw [HQ.out.heap] at he; cases he) (fun e => by
        obtain ⟨_, cur', hc⟩ := HQ.out.waits.far (j := g) rfl
        rw [← e, he] at hc; cases hc), F, hh, hD⟩
  have t6 : QTurn (fun j => j = qb ∨ some g = some j) w W6 := by
    have hz := HB3.out.size
    refine ⟨g6.os.trans (HT5.out.os.trans (HT4.out.os.trans HB3.out.os)), g6.tape.trans (HT5.out.tape.trans (HT4.out.tape.trans HB3.out.tape)), g6.output.trans (HT5.out.output.trans (HT4.out.output.trans HB3.out.output)), by have := g6.size; omega, fun j hj hne => ?_⟩
    obtain ⟨o, ho⟩ : ∃ o, w.heap[j]? = some o := ⟨_, Array.getElem?_eq_getElem hj⟩
    rw [ho]
    exact k6 j o ho (fun e => hne (.inl e)) (fun e => hne (.inr (by rw [e])))
  exact bodyPost_ret (results_cq rfl _ _ b1 _ _ (0, 0) _ (.bool true) rfl rfl r6 Tryd.underlying42 rfl (by kernel_rfl)) rfl ⟨_, rfl, hq6, dk x (HQ.out.waits.own x (by simp)), t6, rfl⟩
end Go.Proofs.YtnkfnmkbfnhmfaaDoor
