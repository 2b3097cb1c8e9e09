/-
  The queue's Step. (gen_qustep.py) · The queue's Submit of nothing, its Waits, its Ask. · What the laws of layer 13 call: known. · The law QueueRooms, walked.
-/
import Derived.Test.YtnkfnmkbfnhmfaaDoorQuY
import Derived.Test.YtnkfnmkbfnhmfaaDoorGV
import Derived.Lib.SlBytesConst
namespace Go.Proofs.YtnkfnmkbfnhmfaaDoor
open Go Go.RowKit Go.Shelf Go.Proofs Go.ChangeMaps Go.Maps Go.WideMaps
attribute [local go_sem] Oper.semAt_some

/-- What became of the request x, and of the history. -/
def StepQ (w0 : World) (hb n : Nat) (nm : List FX) (M : Bs → Nat) (mb : Nat) (H : List (Nat × List DX)) (x : QX) (pass : Bool) (a : AX) (w' : World) : Prop :=
  (((lateQ M x.base x.l = true ∧ a = ⟨x.id, 2, 0, 0⟩) ∨ (lateQ M x.base x.l = false ∧ pass = false ∧ a = ⟨x.id, 3, 0, 0⟩) ∨
     (lateQ M x.base x.l = false ∧ pass = true ∧ ∃ q : Int, q ≠ 0 ∧ applyT (flsX nm) (x.l.map DX.dl) = .error q ∧ a = ⟨x.id, 4, 0, q⟩)) ∧ ∃ nv cv k D, HistAt w0.heap.size w' hb n nm M nv cv mb k D H) ∨
  (lateQ M x.base x.l = false ∧ pass = true ∧ a = ⟨x.id, 1, ((n + 1 : Nat) : Int), 0⟩ ∧ ∃ nm' nv cv k D G, (∃ f, applyT (flsX nm) (x.l.map DX.dl) = .ok f ∧ flsX nm' = bareT f) ∧
     HistAt w0.heap.size w' hb (n + 1) nm' (fun s => if s ∈ pathsX x.l then n + 1 else M s) nv cv mb k D ((G, x.l) :: H))
theorem StepQ.id {w0 : World} {hb n : Nat} {nm : List FX} {M : Bs → Nat} {mb : Nat} {H : List (Nat × List DX)} {x : QX} {pass : Bool} {a : AX} {w' : World} (h : StepQ w0 hb n nm M mb H x pass a w') : a.id = x.id := by
  rcases h with ⟨⟨_, rfl⟩ | ⟨_, _, rfl⟩ | ⟨_, _, q, _, _, rfl⟩, _⟩ | ⟨_, _, rfl, _⟩ <;> rfl
theorem StepQ.keep {w0 : World} {hb n : Nat} {nm : List FX} {M : Bs → Nat} {mb : Nat} {H : List (Nat × List DX)} {x : QX} {pass : Bool} {a : AX} {w' w'' : World} (h : StepQ w0 hb n nm M mb H x pass a w') (hk : ∀ {n nm M nv cv k D H}, HistAt w0.heap.size w' hb n nm M nv cv mb k D H → HistAt w0.heap.size w'' hb n nm M nv cv mb k D H) : StepQ w0 hb n nm M mb H x pass a w'' := by
  rcases h with ⟨h1, nv, cv, k, D, h2⟩ | ⟨h1, h2, h3, nm', nv, cv, k, D, G, h4, h5⟩
  · exact .inl ⟨h1, nv, cv, k, D, hk h2⟩
  · exact .inr ⟨h1, h2, h3, nm', nv, cv, k, D, G, h4, hk h5⟩
theorem out_ends {w0 w : World} {qb hb ab room : Nat} {v : Value} {R : List QX} {L : List AX} {n : Nat} {nm : List FX} {M : Bs → Nat} {nv cv : Value} {mb k : Nat} {D : DataW Unit} {H : List (Nat × List DX)} {x : QX} {pass : Bool} {e : Ending} {w' : World} (h : QueueAt w0.heap.size w qb hb ab room v R L) (hh : HistAt w0.heap.size w hb n nm M nv cv mb k D H) (hne : ab ≠ mb) (hbw : w0.heap.size ≤ w.heap.size) (hp : OutPost w0 hb n nm M mb H x pass w e w') :
    ∃ a : AX, e = .returned a.v ∧ QueueAt w0.heap.size w' qb hb ab room v R L ∧ StepQ w0 hb n nm M mb H x pass a w' ∧ Below w0.heap.size w w' ∧ (∀ (g : Nat) (cur : Array Value) (t : TypeId), t ≠ 68 ∧ t ≠ 69 → ∀ {mk : Nat × Nat}, w.heap[g]? = some (.cells cur t mk) → w'.heap[g]? = w.heap[g]?) := by
  rcases hp with ⟨a, he, _, hb2, hr⟩ | ⟨h1, h2, he, nm', nv', cv', k', D', G', hf, hH, hb2, hkr, hkm⟩
  · exact ⟨a, he, h.below hb2, .inl ⟨hr, nv, cv, k, D, hh.below hb2⟩, hb2.mono hbw, fun g cur t _ _ hg => hb2.block g (Array.getElem?_eq_some_iff.1 hg).1⟩
  · refine ⟨_, he, h.keep (fun g cur t ht hg => hkr g cur t (by rcases ht with rfl | rfl | rfl | rfl <;> decide) hg) (fun o ho => ?_), .inr ⟨h1, h2, rfl, nm', nv', cv', k', D', G', hf, hH⟩, hb2, hkr⟩
    obtain ⟨es, ck, hm, _⟩ := h.ans
    rw [hkm ab es ck hne hm]
    exact ho
/-- A history stays where a map that is not its own turns. -/
theorem HistAt.turnM {base : Nat} {w w' : World} {ab hb n : Nat} {es : Array MapEntry} {ck : Nat} {nm : List FX} {M : Bs → Nat} {nv cv : Value} {mb k : Nat} {D : DataW Unit} {H : List (Nat × List DX)} (h : HistAt base w hb n nm M nv cv mb k D H) (ha : w.heap[ab]? = some (.map es ck)) (hne : ab ≠ mb) (hg : w.grownBy w' (some ab)) : HistAt base w' hb n nm M nv cv mb k D H := by
  have key : ∀ (j : Nat) (o : Obj), w.heap[j]? = some o → j ≠ ab → w'.heap[j]? = w.heap[j]? := fun j o ho h1 => hg.block j (Array.getElem?_eq_some_iff.1 ho).1 (by simpa using h1)
  refine h.keepT (fun g cur t _ hc => key g _ hc (fun e => by subst e; rw [ha] at hc; cases hc)) (fun o ho => (key mb o ho (fun e => hne e.symm)).trans ho)
/-- What a queue's call keeps: cells but the queue's own, and a history's. -/
structure QFrame (qb : Nat) (v : Value) (w w' : World) : Prop where
  size : w.heap.size ≤ w'.heap.size
  cells : ∀ (g : Nat) (cur : Array Value) (t : TypeId), t ≠ 68 ∧ t ≠ 69 → g ≠ qb → v.ownBlock ≠ some g → ∀ {mk : Nat × Nat}, w.heap[g]? = some (.cells cur t mk) → w'.heap[g]? = w.heap[g]?
set_option maxRecDepth 100000 in
set_option maxHeartbeats 8000000 in
theorem step_none {base : Nat} {w : World} {qb hb ab room : Nat} {v : Value} {L : List AX} (h : QueueAt base w qb hb ab room v [] L) (pass : Bool) :
    Calls Tryd.prog 16 #[.pointer (some ⟨qb, 0, none⟩), .bool pass] w fun e w' => e = .returned (.tuple #[noA.v, .bool false]) ∧ Below w.heap.size w w' := by
  obtain ⟨b1, hb1⟩ : ∃ b, w.heap.size = b := ⟨_, rfl⟩
  obtain ⟨W1, hW1⟩ : ∃ W, w.alloc (.cells #[.int .i64 0, .int .i64 0, .int .i64 0, .int .i64 0] 36) = W := ⟨_, rfl⟩
  have hbe : Below w.heap.size w W1 := by rw [← hW1]; exact (Below.refl _ _).alloc (Nat.le_refl _) _
  have a1 : AnsB W1 b1 noA := by unfold AnsB; rw [← hW1, ← hb1]; exact heap_alloc_new _ _
  have hq1 := h.below hbe
  have HHI := Lib.hid (qhistory_any qb hb _ _ _ W1 hq1.heap)
  have HLV := Lib.hid (leave_none hq1)
  have HBE := Lib.hid hbe
  have A1 := Lib.hid a1
  have HB1 := Lib.hid hb1
  have HW1 := Lib.hid hW1
  clear h hb1 hW1 hbe a1 hq1
  go_enter Tryd.func16, Tryd.ntmps16
  go_upto_region 1 with fail
  rw [HB1.out, HW1.out]
  go_wp2_with fail
  refine HHI.out.mono ?_
  rintro e w2 ⟨rfl, hw2⟩
  have hw2 := hw2.symm
  subst hw2
  go_wp2_with fail
  refine HLV.out.mono ?_
  rintro e w2 ⟨rfl, hb2⟩
  obtain ⟨b2, hb2e⟩ : ∃ b, w2.heap.size = b := ⟨_, rfl⟩
  obtain ⟨W3, hW3⟩ : ∃ W, w2.alloc (.cells #[.int .i64 0, .int .i64 0, .slice none 0 0] 42) = W := ⟨_, rfl⟩
  have r3 : ReqB W3 b2 (.int .i64 0) (.int .i64 0) (.slice none 0 0) := by unfold ReqB; rw [← hW3, ← hb2e]; exact heap_alloc_new _ _
  have hb3 : Below w2.heap.size w2 W3 := by rw [← hW3]; exact (Below.refl _ _).alloc (Nat.le_refl _) _
  have a3 : AnsB W3 b1 noA := row_belowQ (row_belowQ A1.out hb2) hb3
  obtain ⟨r4, g4⟩ := r3.store (x' := .int .i64 0) (y' := .int .i64 0) (z' := .slice none 0 0)
  obtain ⟨W4, hW4⟩ : ∃ W, ((W3.setCell ⟨b2, 0, none⟩ (.int .i64 0)).setCell ⟨b2, 1, none⟩ (.int .i64 0)).setCell ⟨b2, 2, none⟩ (.slice none 0 0) = W := ⟨_, rfl⟩
  rw [hW4] at r4 g4
  have hne : b1 ≠ b2 := by have := (Array.getElem?_eq_some_iff.1 A1.out).1; have := hb2.size; omega
  have a4 : AnsB W4 b1 noA := row_grownQ a3 g4 hne
  obtain ⟨x0, x1, x2, x3, x4, x5⟩ := r3.facts
  obtain ⟨y0, y1, y2, y3, y4, y5, y6, y7⟩ := a4.facts
  simp only [noA] at y0 y1 y2 y3
  have hbz : Below w.heap.size w W4 := (HBE.out.trans ((hb2.trans (hb3.mono hb2.size)).mono HBE.out.size)).grown g4 (by have := HBE.out.size; have := hb2.size; have := hb3.size; omega) (fun j e => by cases e; have := HBE.out.size; have := hb2.size; omega)
  have HBZ := Lib.hid hbz
  have A4 := Lib.hid a4
  have HW4 := Lib.hid hW4
  clear hb2 r3 hb3 a3 r4 g4 a4 hbz hW4 hne
  go_upto_region 4 with fail
  rw [HW4.out]
  clear x0 x1 x2 x3 x4 x5
  go_wp2_with fail
  obtain ⟨a9, g9⟩ := A4.out.store noA
  have hbs := HBZ.out.size
  exact bodyPost_ret (results_cq rfl _ _ b1 _ _ (0, 0) _ (.bool false) rfl rfl a9 Tryd.underlying36 rfl (by kernel_rfl)) rfl ⟨rfl, HBZ.out.grown g9 hbs (fun j e => by cases e; have := HB1.out; omega)⟩
set_option maxRecDepth 100000 in
set_option maxHeartbeats 16000000 in
theorem step_any (w0 : World) {w : World} {qb hb ab room : Nat} {v : Value} {x : QX} {T : List QX} {L : List AX} {n : Nat} {nm : List FX} {M : Bs → Nat} {nv cv : Value} {mb k : Nat} {D : DataW Unit} {H : List (Nat × List DX)} (h : QueueAt w0.heap.size w qb hb ab room v (x :: T) L) (hh : HistAt w0.heap.size w hb n nm M nv cv mb k D H) (hne : ab ≠ mb) (h0 : Below w0.heap.size w0 w) (pass : Bool) (hn : n < 100000) (hT : T.length ≤ 100000) (hL : L.length ≤ 100000) (hm : MaxOk w0)
    (hid : keyOf Tryd.prog 3 (.int .i64 x.id) = some (.int .i64 x.id)) :
    Calls Tryd.prog 16 #[.pointer (some ⟨qb, 0, none⟩), .bool pass] w fun e w' => ∃ (a : AX) (v' : Value), e = .returned (.tuple #[a.v, .bool true]) ∧ QueueAt w0.heap.size w' qb hb ab room v' T (a :: L) ∧ StepQ w0 hb n nm M mb H x pass a w' ∧ Below w0.heap.size w w' ∧ QFrame qb v w w' ∧ v'.ownBlock = v.ownBlock := by
  obtain ⟨hsm, hx0⟩ := h.waits.sm x (by simp)
  obtain ⟨b1, hb1⟩ : ∃ b, w.heap.size = b := ⟨_, rfl⟩
  obtain ⟨W1, hW1⟩ : ∃ W, w.alloc (.cells #[.int .i64 0, .int .i64 0, .int .i64 0, .int .i64 0] 36) = W := ⟨_, rfl⟩
  have hbe : Below w.heap.size w W1 := by rw [← hW1]; exact (Below.refl _ _).alloc (Nat.le_refl _) _
  have a1 : AnsB W1 b1 noA := by unfold AnsB; rw [← hW1, ← hb1]; exact heap_alloc_new _ _
  have hq1 := h.below hbe
  have hh1 := hh.below hbe
  have HHI := Lib.hid (qhistory_any qb hb _ _ _ W1 hq1.heap)
  have HLV := Lib.hid (leave_any hq1 hT (by have := h0.size; have := hbe.size; omega))
  have HBE := Lib.hid hbe
  have A1 := Lib.hid a1
  have HB1 := Lib.hid hb1
  have HW1 := Lib.hid hW1
  have HQ := Lib.hid h
  have HQ1 := Lib.hid hq1
  have HH1 := Lib.hid hh1
  have H0 := Lib.hid h0
  have HSM := Lib.hid hsm
  have HX0 := Lib.hid hx0
  have HNE := Lib.hid hne
  have HID := Lib.hid hid
  have HM := Lib.hid hm
  obtain ⟨id, bs, A, c, l⟩ := x
  unfold QX.v at HLV
  clear h hh hb1 hW1 hbe a1 hq1 hh1 h0 hsm hx0 hne hid hm
  go_enter Tryd.func16, Tryd.ntmps16
  go_upto_region 1 with fail
  rw [HB1.out, HW1.out]
  go_wp2_with fail
  refine HHI.out.mono ?_
  rintro e w2 ⟨rfl, hw2⟩
  have hw2 := hw2.symm
  subst hw2
  go_wp2_with fail
  refine HLV.out.mono ?_
  rintro e w2 ⟨v2, rfl, hq2, hd2, ht2, hv2⟩
  obtain ⟨m, hml⟩ : ∃ m, l.length = m := ⟨_, rfl⟩
  have hd2 : DeltasAt w0.heap.size w2 (.slice A l.length c) l := hd2
  try rw [hml]
  obtain ⟨b2, hb2e⟩ : ∃ b, w2.heap.size = b := ⟨_, rfl⟩
  obtain ⟨W3, hW3⟩ : ∃ W, w2.alloc (.cells #[.int .i64 0, .int .i64 0, .slice none 0 0] 42) = W := ⟨_, rfl⟩
  have r3 : ReqB W3 b2 (.int .i64 0) (.int .i64 0) (.slice none 0 0) := by unfold ReqB; rw [← hW3, ← hb2e]; exact heap_alloc_new _ _
  have hb3 : Below w2.heap.size w2 W3 := by rw [← hW3]; exact (Below.refl _ _).alloc (Nat.le_refl _) _
  obtain ⟨r4, g4⟩ := r3.store (x' := .int .i64 id) (y' := .int .i64 bs) (z' := .slice A m c)
  obtain ⟨W4, hW4⟩ : ∃ W, ((W3.setCell ⟨b2, 0, none⟩ (.int .i64 id)).setCell ⟨b2, 1, none⟩ (.int .i64 bs)).setCell ⟨b2, 2, none⟩ (.slice A m c) = W := ⟨_, rfl⟩
  rw [hW4] at r4 g4
  have hb24 : Below w2.heap.size w2 W4 := hb3.grown g4 hb3.size (fun j e => by cases e; omega)
  have hvb : ∀ j, v.ownBlock = some j → j < w.heap.size := fun j e => by
    obtain ⟨_, cur, hc⟩ := HQ.out.waits.far e
    exact (Array.getElem?_eq_some_iff.1 hc).1
  have hqw := (Array.getElem?_eq_some_iff.1 HQ.out.heap).1
  have hb1v := HB1.out
  have a2 : AnsB w2 b1 noA := (ht2.block b1 (Array.getElem?_eq_some_iff.1 A1.out).1 (fun e => by
    rcases e with e | e
    · omega
    · have := hvb b1 e; omega)).trans A1.out
  have a4 : AnsB W4 b1 noA := row_belowQ a2 hb24
  have hq4 := hq2.below hb24
  have hh4 := (HH1.out.turned HQ1.out ht2).below hb24
  have hd4 : DeltasAt w0.heap.size W4 (.slice A l.length c) l := hd2.below hb24
  have hz1 := HBE.out.size
  have hz2 := ht2.size
  have hz4 := hb24.size
  have h0s := H0.out.size
  have hbw2 : Below w0.heap.size w w2 := (HBE.out.mono h0s).trans (ht2.below (fun j e => by
    rcases e with rfl | e
    · exact HQ.out.lq
    · exact (HQ.out.waits.far e).1) (by omega))
  have hbw4 : Below w0.heap.size w W4 := hbw2.trans (hb24.mono (by omega))
  have hout := outcome_any w0 hq4 hh4 (H0.out.trans hbw4) ⟨id, bs, A, c, l⟩ pass hn hd4 HSM.out HX0.out HM.out
  unfold QX.v at hout
  simp only [hml] at hout
  have HOUT := Lib.hid hout
  obtain ⟨x0, x1, x2, x3, x4, x5⟩ := r3.facts
  obtain ⟨y0, y1, y2, -, -, -⟩ := r4.facts
  have HT2 := Lib.hid ht2
  have HQ4 := Lib.hid hq4
  have HH4 := Lib.hid hh4
  have R4 := Lib.hid r4
  have A4 := Lib.hid a4
  have HW4 := Lib.hid hW4
  have HBW4 := Lib.hid hbw4
  have HB24 := Lib.hid hb24
  have HV2 := Lib.hid hv2
  have HVB := Lib.hid hvb
  clear hq2 hd2 ht2 r3 hb3 r4 g4 hW4 hb24 a2 a4 hq4 hh4 hd4 hbw2 hbw4 hout hv2 hvb
  go_upto_region 4 with fail
  rw [HW4.out]
  clear x0 x1 x2 x3 x4 x5 hW3
  go_wp2_with fail
  refine HOUT.out.mono ?_
  rintro e w5 hp5
  obtain ⟨a, rfl, hq5, hst5, hbl5, hk5⟩ := out_ends HQ4.out HH4.out HNE.out (by omega) hp5
  obtain ⟨i0, i1, i2, i3⟩ := a
  obtain rfl : i0 = id := hst5.id
  clear hp5
  simp only [AX.v]
  obtain ⟨b4, hb4e⟩ : ∃ b, w5.heap.size = b := ⟨_, rfl⟩
  obtain ⟨Wb, hWb⟩ : ∃ W, w5.alloc (.cells #[.int .i64 0, .int .i64 0, .int .i64 0, .int .i64 0] 36) = W := ⟨_, rfl⟩
  have ab5 : AnsB Wb b4 noA := by unfold AnsB; rw [← hWb, ← hb4e]; exact heap_alloc_new _ _
  have hbb : Below w5.heap.size w5 Wb := by rw [← hWb]; exact (Below.refl _ _).alloc (Nat.le_refl _) _
  obtain ⟨a5, g5⟩ := ab5.store ⟨i0, i1, i2, i3⟩
  simp only at a5 g5
  obtain ⟨W5, hW5⟩ : ∃ W, (((Wb.setCell ⟨b4, 0, none⟩ (.int .i64 i0)).setCell ⟨b4, 1, none⟩ (.int .i64 i1)).setCell ⟨b4, 2, none⟩ (.int .i64 i2)).setCell ⟨b4, 3, none⟩ (.int .i64 i3) = W := ⟨_, rfl⟩
  rw [hW5] at a5 g5
  have hb55 : Below w5.heap.size w5 W5 := hbb.grown g5 hbb.size (fun j e => by cases e; omega)
  have hz5 := hbl5.size
  have hz55 := hb55.size
  have r5 : ReqB W5 b2 (.int .i64 i0) (.int .i64 bs) (.slice A m c) := row_belowQ ((hk5 b2 _ _ (by decide) R4.out).trans R4.out) hb55
  have a15 : AnsB W5 b1 noA := row_belowQ ((hk5 b1 _ _ (by decide) A4.out).trans A4.out) hb55
  have hq55 := hq5.below hb55
  have hst55 := hst5.keep (w'' := W5) (fun h => h.below hb55)
  obtain ⟨y4, y5, y6, y7, z0, z1, z2, z3⟩ := ab5.facts
  simp only [noA] at y4 y5 y6 y7
  have hq5d : QueueAt w0.heap.size W5.drew qb hb ab room v2 T L := hq55.below (Below.refl _ _).drew
  obtain ⟨w6, hrun, hown6, hgr6⟩ := hq5d.ans.update ikeyed Tryd.underlying77 (by unfold maxLen; omega) HID.out (ansElem_mk ⟨i0, i1, i2, i3⟩)
  simp only [AX.v] at hrun
  have hmapb : ∃ es ck, W5.heap[ab]? = some (.map es ck) := by
    obtain ⟨es, ck, he, _⟩ := hq55.ans
    exact ⟨es, ck, he⟩
  have nomap : ∀ (j : Nat) (cur : Array Value) (t : TypeId) {mk : Nat × Nat}, W5.heap[j]? = some (.cells cur t mk) → some ab ≠ some j := fun j cur t _ hj e => by
    obtain ⟨es, ck, he⟩ := hmapb
    cases e
    rw [he] at hj; cases hj
  have X5 : W5.cell? ⟨qb, 3, none⟩ = some (.map (some ab)) ∧ W5.cell? ⟨b2, 0, none⟩ = some (.int .i64 i0) ∧ W5.cell? ⟨b4, 0, none⟩ = some (.int .i64 i0) ∧ W5.cell? ⟨b4, 1, none⟩ = some (.int .i64 i1) ∧ W5.cell? ⟨b4, 2, none⟩ = some (.int .i64 i2) ∧ W5.cell? ⟨b4, 3, none⟩ = some (.int .i64 i3) := ⟨cell_of_row W5 qb 3 _ _ _ hq55.heap, cell_of_row W5 b2 0 _ _ _ r5, a5.facts.1, a5.facts.2.1, a5.facts.2.2.1, a5.facts.2.2.2.1⟩
  have HNQ := Lib.hid (show some qb ≠ some ab from fun e => nomap qb _ _ hq55.heap e.symm)
  have HN2 := Lib.hid (show some b2 ≠ some ab from fun e => nomap b2 _ _ r5 e.symm)
  have HN4 := Lib.hid (show some b4 ≠ some ab from fun e => nomap b4 _ _ a5 e.symm)
  have HN1 := Lib.hid (show some b1 ≠ some ab from fun e => nomap b1 _ _ a15 e.symm)
  have HQ5 := Lib.hid (show QueueAt w0.heap.size W5 qb hb ab room v2 T L from hq55)
  have HR5 := Lib.hid (show ReqB W5 b2 (.int .i64 i0) (.int .i64 bs) (.slice A m c) from r5)
  have HA5 := Lib.hid (show AnsB W5 b4 ⟨i0, i1, i2, i3⟩ from a5)
  have HA15 := Lib.hid a15
  have HST5 := Lib.hid hst55
  have HMB := Lib.hid hmapb
  have HNM := Lib.hid nomap
  have HOWN6 := Lib.hid hown6
  have HGR6 := Lib.hid hgr6
  have HBL5 := Lib.hid hbl5
  have HK5 := Lib.hid hk5
  have HB55 := Lib.hid hb55
  have HW5 := Lib.hid hW5
  have HWB := Lib.hid hWb
  clear ab5 hbb a5 g5 hb55 r5 a15 hq55 hst55 hq5d hmapb nomap hown6 hbl5 hk5 hq5 hst5 hW5
  go_upto_region 7 with fail
  rw [HW5.out]
  clear y4 y5 y6 y7 z0 z1 z2 z3 hWb
  refine wp_region_held_drew (S := (fun w' => w'.cell? ⟨qb, 3, none⟩ = some (.map (some ab)) ∧ w'.cell? ⟨b2, 0, none⟩ = some (.int .i64 i0) ∧ w'.cell? ⟨b4, 0, none⟩ = some (.int .i64 i0) ∧ w'.cell? ⟨b4, 1, none⟩ = some (.int .i64 i1) ∧ w'.cell? ⟨b4, 2, none⟩ = some (.int .i64 i2) ∧ w'.cell? ⟨b4, 3, none⟩ = some (.int .i64 i3))) (by kernel_rfl) ⟨X5.1, X5.2.1, X5.2.2.1, X5.2.2.2.1, X5.2.2.2.2.1, X5.2.2.2.2.2⟩ (fun hHeld => ?_)
  refine wpAnyH_take (i := 0) (v := ?vm0) rfl (by kernel_rfl) (by kernel_rfl) (by kernel_rfl) (fun _ _ _ h => h) (Or.inl ⟨by rfl, ?ym0⟩) (by assumption) ?rm0
  case ym0 =>
    intro w hSw
    (try dsimp only at hSw)
    go_simp
    first | done | with_reducible rfl
  try simp only [Act.put, List.getElem_toArray, List.getElem_cons_zero, List.setIfInBounds_toArray, List.set_cons_zero, List.set_cons_succ]
  refine wpAnyH_take (i := 1) (v := ?vm1) rfl (by kernel_rfl) (by kernel_rfl) (by kernel_rfl) (fun _ _ _ h => h) (Or.inl ⟨by rfl, ?ym1⟩) (by assumption) ?rm1
  case ym1 =>
    intro w hSw
    (try dsimp only at hSw)
    go_simp
    first | done | with_reducible rfl
  try simp only [Act.put, List.getElem_toArray, List.getElem_cons_zero, List.getElem_cons_succ, List.setIfInBounds_toArray, List.set_cons_zero, List.set_cons_succ]
  refine wpAnyH_take (i := 2) (v := ?vm2) rfl (by kernel_rfl) (by kernel_rfl) (by kernel_rfl) (fun _ _ _ h => h) (Or.inl ⟨by rfl, ?ym2⟩) (by assumption) ?rm2
  case ym2 =>
    intro w hSw
    (try dsimp only at hSw)
    go_simp
    first | done | with_reducible rfl
  try simp only [Act.put, List.getElem_toArray, List.getElem_cons_zero, List.getElem_cons_succ, List.setIfInBounds_toArray, List.set_cons_zero, List.set_cons_succ]
  refine wpAnyH_take (i := 3) (v := ?vm3) rfl (by kernel_rfl) (by kernel_rfl) (by kernel_rfl) (fun _ _ _ h => h) (Or.inl ⟨by rfl, ?ym3⟩) (by assumption) ?rm3
  case ym3 =>
    intro w hSw
    (try dsimp only at hSw)
    go_simp
    first | done | with_reducible rfl
  try simp only [Act.put, List.getElem_toArray, List.getElem_cons_zero, List.getElem_cons_succ, List.setIfInBounds_toArray, List.set_cons_zero, List.set_cons_succ]
  refine wpAnyH_take (i := 4) (v := ?vm4) rfl (by kernel_rfl) (by kernel_rfl) (by kernel_rfl) (fun _ _ _ h => h) (Or.inl ⟨by rfl, ?ym4⟩) (by assumption) ?rm4
  case ym4 =>
    intro w hSw
    (try dsimp only at hSw)
    go_simp
    first | done | with_reducible rfl
  try simp only [Act.put, List.getElem_toArray, List.getElem_cons_zero, List.getElem_cons_succ, List.setIfInBounds_toArray, List.set_cons_zero, List.set_cons_succ]
  refine wpAnyH_take (i := 5) (v := ?vm5) rfl (by kernel_rfl) (by kernel_rfl) (by kernel_rfl) (fun _ _ _ h => h) (Or.inl ⟨by rfl, ?ym5⟩) (by assumption) ?rm5
  case ym5 =>
    intro w hSw
    (try dsimp only at hSw)
    go_simp
    first | done | with_reducible rfl
  try simp only [Act.put, List.getElem_toArray, List.getElem_cons_zero, List.getElem_cons_succ, List.setIfInBounds_toArray, List.set_cons_zero, List.set_cons_succ]
  refine wpAnyH_take (i := 6) (v := ?vm6) rfl (by kernel_rfl) (by kernel_rfl) (by kernel_rfl) (fun _ _ _ h => h) (Or.inl ⟨by rfl, ?ym6⟩) (by assumption) ?rm6
  case ym6 =>
    intro w hSw
    (try dsimp only at hSw)
    go_simp
    first | done | with_reducible rfl
  try simp only [Act.put, List.getElem_toArray, List.getElem_cons_zero, List.getElem_cons_succ, List.setIfInBounds_toArray, List.set_cons_zero, List.set_cons_succ]
  refine wpAnyH_ready (rs := [7]) (by kernel_rfl) (by simp) ?_
  refine AllReadyH.cons rfl (fun K hK => ?_) AllReadyH.nil
  go_simp
  have hq6 : w6.heap[qb]? = _ := (hgr6.block qb (Array.getElem?_eq_some_iff.1 HQ5.out.heap).1 HNQ.out).trans HQ5.out.heap
  have hr6 : ReqB w6 b2 (.int .i64 i0) (.int .i64 bs) (.slice A m c) := (hgr6.block b2 (Array.getElem?_eq_some_iff.1 HR5.out).1 HN2.out).trans HR5.out
  have ha6 : AnsB w6 b4 ⟨i0, i1, i2, i3⟩ := (hgr6.block b4 (Array.getElem?_eq_some_iff.1 HA5.out).1 HN4.out).trans HA5.out
  have hHeld := (show _ ∧ _ ∧ _ ∧ _ ∧ _ ∧ _ from ⟨cell_of_row w6 qb 3 _ _ _ hq6, cell_of_row w6 b2 0 _ _ _ hr6, ha6.facts.1, ha6.facts.2.1, ha6.facts.2.2.1, ha6.facts.2.2.2.1⟩)
  have HQB6 := Lib.hid hq6
  have HR6 := Lib.hid hr6
  have HA6 := Lib.hid ha6
  clear hq6 hr6 ha6
  refine hK.out _ _ hHeld (fun hHeld => ?_)
  clear hK K
  try simp only [Act.put, List.getElem_toArray, List.getElem_cons_zero, List.getElem_cons_succ, List.setIfInBounds_toArray, List.set_cons_zero, List.set_cons_succ]
  refine wpAnyH_done (by kernel_rfl) ?_ _
  clear hHeld
  have a16 : AnsB w6 b1 noA := (HGR6.out.block b1 (Array.getElem?_eq_some_iff.1 HA15.out).1 HN1.out).trans HA15.out
  obtain ⟨y0, y1, y2, y3, -, -, -, -⟩ := HA6.out.facts
  obtain ⟨x0, x1, x2, x3, x4, x5, x6, x7⟩ := a16.facts
  simp only [noA] at y0 y1 y2 y3 x0 x1 x2 x3
  have A16 := Lib.hid a16
  clear a16
  go_wp2_with fail
  obtain ⟨a9, g9⟩ := A16.out.store ⟨i0, i1, i2, i3⟩
  refine bodyPost_ret (results_cq rfl _ _ b1 _ _ (0, 0) _ (.bool true) rfl rfl a9 Tryd.underlying36 rfl (by kernel_rfl)) rfl ?_
  have hz6 := HGR6.out.size
  have hz6' : W5.heap.size ≤ w6.heap.size := hz6
  obtain ⟨es, ck, hma⟩ := HMB.out
  have kc : ∀ (g : Nat) (cur : Array Value) (t : TypeId), t ≠ 36 → W5.heap[g]? = some (.cells cur t (0, 0)) → ((((w6.setCell ⟨b1, 0, none⟩ (.int .i64 i0)).setCell ⟨b1, 1, none⟩ (.int .i64 i1)).setCell ⟨b1, 2, none⟩ (.int .i64 i2)).setCell ⟨b1, 3, none⟩ (.int .i64 i3)).heap[g]? = W5.heap[g]? := fun g cur t ht hg =>
    (g9.block g (by have := (Array.getElem?_eq_some_iff.1 hg).1; omega) (fun e => by
      cases e
      have h := A16.out
      have h2 := HA15.out
      unfold AnsB at h2
      rw [hg] at h2
      cases h2
      exact ht rfl)).trans (HGR6.out.block g (Array.getElem?_eq_some_iff.1 hg).1 (fun e => HNM.out g cur t hg e.symm))
  have hb1w : b1 < W5.heap.size := (Array.getElem?_eq_some_iff.1 HA15.out).1
  refine ⟨⟨i0, i1, i2, i3⟩, rfl, v2, ⟨(kc qb _ _ (by decide) HQ5.out.heap).trans HQ5.out.heap, HQ5.out.waits.keep fun g cur t ht hg => kc g cur t (by rcases ht with rfl | rfl | rfl <;> decide) hg, ?_, HQ5.out.lq, HQ5.out.la⟩, ?_, ?_, ⟨?_, fun g cur t ht h1 h2 _ hg => ?_⟩, HV2.out⟩
  · have e : ansD (⟨i0, i1, i2, i3⟩ :: L) = (ansD L).put (.int .i64 i0) (AX.d ⟨i0, i1, i2, i3⟩) := rfl
    rw [e, List.length_cons]
    refine ownsMap_keep HOWN6.out fun o ho => (g9.block ab (Array.getElem?_eq_some_iff.1 ho).1 (fun e => ?_)).trans ho
    cases e
    exact HN1.out rfl
  · refine HST5.out.keep fun hx => ?_
    have h6 := HistAt.turnM (w := W5.drew) (hx.below (Below.refl _ _).drew) (show W5.drew.heap[ab]? = some (.map es ck) from hma) HNE.out HGR6.out
    exact h6.turnA A16.out g9
  · have h1 : Below w0.heap.size w W5 := (HBW4.out.trans HBL5.out).trans (HB55.out.mono (by omega))
    have hla := HQ.out.la
    exact (h1.drew.grown HGR6.out (by show w0.heap.size ≤ W5.heap.size; omega) (fun j e => by cases e; exact hla)).grown g9 (by omega) (fun j e => by cases e; omega)
  · exact Nat.le_trans (show w.heap.size ≤ w6.heap.size by omega) g9.size
  · have hgl := (Array.getElem?_eq_some_iff.1 hg).1
    have e1 : W1.heap[g]? = w.heap[g]? := HBE.out.block g hgl
    have e2 : w2.heap[g]? = W1.heap[g]? := HT2.out.block g (by omega) (fun e => by
      rcases e with e | e
      · exact h1 e
      · exact h2 e)
    have e4 : W4.heap[g]? = w2.heap[g]? := HB24.out.block g (by omega)
    have e5 : w5.heap[g]? = W4.heap[g]? := HK5.out g cur t ht (e4.trans (e2.trans (e1.trans hg)))
    have e55 : W5.heap[g]? = w5.heap[g]? := HB55.out.block g (by omega)
    have e0 := e55.trans (e5.trans (e4.trans (e2.trans e1)))
    have e6 : w6.heap[g]? = W5.heap[g]? := HGR6.out.block g (show g < W5.heap.size by omega) (fun e => HNM.out g cur t (e0.trans hg) e.symm)
    exact (g9.block g (by omega) (by simp; omega)).trans (e6.trans e0)
end Go.Proofs.YtnkfnmkbfnhmfaaDoor
namespace Go.Proofs.YtnkfnmkbfnhmfaaDoor
open Go Go.RowKit Go.Shelf Go.Proofs Go.ChangeMaps Go.Maps Go.WideMaps
attribute [local go_sem] Oper.semAt_some

theorem QueueAt.lower {base base' : Nat} {w : World} {qb hb ab room : Nat} {v : Value} {R : List QX} {L : List AX} (h : QueueAt base w qb hb ab room v R L) (hb' : base' ≤ base) : QueueAt base' w qb hb ab room v R L :=
  ⟨h.heap, ⟨⟨h.waits.row.1, h.waits.row.2.imp (fun h => h) fun ⟨g, cap, cur, hv, hb, r⟩ => ⟨g, cap, cur, hv, Nat.le_trans hb' hb, r⟩⟩, fun x hx => (h.waits.own x hx).lowerQ hb', h.waits.sm⟩, h.ans, Nat.le_trans hb' h.lq, Nat.le_trans hb' h.la⟩
set_option maxRecDepth 100000 in
set_option maxHeartbeats 4000000 in
theorem submit_nil (x : QX) (w : World) :
    Calls Tryd.prog 13 #[.pointer none, x.v] w fun e w' => e = .returned (.int .i64 1) ∧ Below w.heap.size w w' := by
  unfold QX.v
  have hb1 : Below w.heap.size w (w.alloc (.cells #[.int .i64 x.id, .int .i64 x.base, .slice x.A x.l.length x.c] 42)) := (Below.refl _ _).alloc (Nat.le_refl _) _
  go_enter Tryd.func13, Tryd.ntmps13
  go_wp2_with fail
  refine (qhistory_nil _).mono ?_
  rintro e w2 ⟨rfl, rfl⟩
  go_wp2_with fail
  go_ret
  exact ⟨rfl, hb1⟩
def idsV (R : List QX) : List Value := R.map fun x => .int .i64 x.id
theorem int_infoQ : (Tryd.prog.info? 3).map (fun i => (i.zero, i.size, i.bytes)) = some (some (.int .i64 0), 1, 8) := by kernel_rfl
set_option maxRecDepth 100000 in
set_option maxHeartbeats 8000000 in
theorem waits_any {base : Nat} {w : World} {qb hb ab room : Nat} {v : Value} {R : List QX} {L : List AX} (h : QueueAt base w qb hb ab room v R L) (hR : R.length ≤ 100000) :
    Calls Tryd.prog 14 #[.pointer (some ⟨qb, 0, none⟩)] w fun e w' => ∃ v', e = .returned v' ∧ w'.ownsRow w.heap.size 3 1 v' R.length (idsV R) ∧ Below w.heap.size w w' := by
  obtain ⟨ii, hi, hz0, hz1, hz2⟩ := info_parts int_infoQ
  obtain ⟨A, c, hv, -, hRc, hcm, hrow⟩ := h.waits.slice
  subst hv
  obtain ⟨N, hN⟩ : ∃ N, R.length = N := ⟨_, rfl⟩
  have c1 : w.cell? ⟨qb, 1, none⟩ = some (.slice A R.length c) := cell_of_row w qb 1 _ _ _ h.heap
  have HR := Lib.hid (fun (W : World) (hb : Below w.heap.size w W) (h0 : 0 < R.length) => show ∃ g o, A = some ⟨g, o, none⟩ ∧ RowQ W g o R by obtain ⟨g, o, e, hr⟩ := hrow h0; exact ⟨g, o, e, hr.below hb⟩)
  rw [hN] at c1 hR ⊢
  have HN := Lib.hid hN
  clear h hrow hN
  go_enter Tryd.func14, Tryd.ntmps14
  go_wp2_with fail
  clear c1
  go_loopw [3, 14] (fun v3 v14 wr => ∃ (k : Nat) (v : Value), v3 = v ∧ k ≤ N ∧ v14 = .int .i64 k ∧ Hid (wr.ownsRow w.heap.size 3 1 v k (idsV (R.take k))) ∧ Hid (Below w.heap.size w wr)) (fun _ v14 _ => N - (intOf v14).toNat)
  case atStart => exact ⟨0, _, rfl, Nat.zero_le _, rfl, World.ownsRow_nil _ _ _ _, Below.refl _ _⟩
  case round =>
    obtain ⟨k, v, hv, hk, rfl, HOW, HB⟩ := hrel
    have hv' := hv.symm
    subst hv'
    clear hv
    by_cases hlt : k < N
    · have q1 : (k : Int) < (N : Int) := by omega
      obtain ⟨x, hx⟩ : ∃ x, R[k]? = some x := ⟨_, List.getElem?_eq_getElem (by rw [HN.out]; exact hlt)⟩
      obtain ⟨g, o, hA, hr⟩ := HR.out wr HB.out (by rw [HN.out]; omega)
      subst hA
      obtain ⟨d0, d1, d2⟩ := hr k x hx
      have hnx : idsV (R.take (k + 1)) = idsV (R.take k) ++ [.int .i64 x.id] := by
        rw [List.take_add_one, hx]; unfold idsV; simp
      have HNX := Lib.hid hnx
      obtain ⟨bx, hbx⟩ : ∃ b, wr.heap.size = b := ⟨_, rfl⟩
      obtain ⟨W1, hW1⟩ : ∃ W, wr.alloc (.cells #[.int .i64 x.id, .int .i64 x.base, .slice x.A x.l.length x.c] 42) = W := ⟨_, rfl⟩
      have hb1 : Below wr.heap.size wr W1 := by rw [← hW1]; exact (Below.refl _ _).alloc (Nat.le_refl _) _
      have r1 : ReqB W1 bx (.int .i64 x.id) (.int .i64 x.base) (.slice x.A x.l.length x.c) := by unfold ReqB; rw [← hW1, ← hbx]; exact heap_alloc_new _ _
      obtain ⟨y0, -, -, -, -, -⟩ := r1.facts
      have HOW1 := Lib.hid (ownsRow_belowQ HOW.out hb1)
      have HB1 := Lib.hid (HB.out.trans (hb1.mono HB.out.size))
      have hs1 := HB1.out.size
      have HW1 := Lib.hid hW1
      have HBX := Lib.hid hbx
      clear hx hr hnx hb1 r1 hW1 hbx
      go_upto_region 7 with fail
      rw [HW1.out, HBX.out]
      clear d0 d1 d2
      go_wp2_with (at_builtin; go_loud (refine wpList_append_own _ rfl _ _ 33 rfl w.heap.size 3 ii (.int .i64 0) 1 8 Tryd.underlying33 hi hz0 hz1 hz2 rfl (by decide) v k (idsV (R.take k)) rfl (HOW1.out.alloc _) ⟨W1.heap.size, 0, none⟩ 1 1 [.int .i64 x.id] rfl rfl (cell_oneQ _ _ _) (by intro u hu; simp only [List.mem_singleton] at hu; subst hu; rfl) (by unfold maxLen; omega) (by omega) (by rw [World.size_alloc]; omega) ?_; intro v6 w6 hown6 hgr6 _))
      have HO6 := Lib.hid hown6
      have HB6 := Lib.hid ((HB1.out.alloc hs1 _).grown hgr6 (by rw [World.size_alloc]; omega) (fun j e => (rowT_ge HOW1.out e).1))
      clear hown6 hgr6
      go_wp2_with fail
      go_roundw
      case rel => exact ⟨k + 1, _, rfl, by omega, by go_num, by unfold Hid; rw [HNX.out]; exact HO6.out, HB6.out⟩
      case measure => simp [intOf]; omega
    · obtain rfl : k = N := by omega
      have hfin : R.take k = R := List.take_of_length_le (by rw [HN.out]; exact Nat.le_refl _)
      rw [hfin] at HOW
      go_wp2_with fail
      go_ret
      exact ⟨v, rfl, HOW.out, HB.out⟩
set_option maxRecDepth 100000 in
set_option maxHeartbeats 8000000 in
theorem ask_any {base : Nat} {w : World} {qb hb ab room : Nat} {v : Value} {R : List QX} {L : List AX} (h : QueueAt base w qb hb ab room v R L) (id : Int) (hid : keyOf Tryd.prog 3 (.int .i64 id) = some (.int .i64 id)) :
    Calls Tryd.prog 17 #[.pointer (some ⟨qb, 0, none⟩), .int .i64 id] w fun e w' => e = .returned (.tuple #[(lookA L id).v, .bool (hasA L id)]) ∧ Below w.heap.size w w' := by
  obtain ⟨b1, hb1⟩ : ∃ b, w.heap.size = b := ⟨_, rfl⟩
  obtain ⟨W1, hW1⟩ : ∃ W, w.alloc (.cells #[.int .i64 0, .int .i64 0, .int .i64 0, .int .i64 0] 36) = W := ⟨_, rfl⟩
  have hbe : Below w.heap.size w W1 := by rw [← hW1]; exact (Below.refl _ _).alloc (Nat.le_refl _) _
  have s1 : W1.heap.size = b1 + 1 := by rw [← hW1, ← hb1]; simp
  have a1 : AnsB W1 b1 noA := by unfold AnsB; rw [← hW1, ← hb1]; exact heap_alloc_new _ _
  have hq1 := h.below hbe
  have c3 : W1.cell? ⟨qb, 3, none⟩ = some (.map (some ab)) := cell_of_row W1 qb 3 _ _ _ hq1.heap
  have hlk := ans_look hq1.ans id hid
  obtain ⟨hs, hhs⟩ : ∃ b, hasA L id = b := ⟨_, rfl⟩
  obtain ⟨xa, hxa⟩ : ∃ x, lookA L id = x := ⟨_, rfl⟩
  rw [hhs, hxa] at hlk
  rw [hhs, hxa]
  obtain ⟨i0, i1, i2, i3⟩ := xa
  simp only [AX.v] at hlk
  obtain ⟨W2, hW2⟩ : ∃ W, W1.alloc (.cells #[.int .i64 0, .int .i64 0, .int .i64 0, .int .i64 0] 36) = W := ⟨_, rfl⟩
  have a2 : AnsB W2 (b1 + 1) noA := by unfold AnsB; rw [← hW2, ← s1]; exact heap_alloc_new _ _
  have hb2 : Below W1.heap.size W1 W2 := by rw [← hW2]; exact (Below.refl _ _).alloc (Nat.le_refl _) _
  obtain ⟨a3, g3⟩ := a2.store ⟨i0, i1, i2, i3⟩
  simp only at a3 g3
  obtain ⟨W3, hW3⟩ : ∃ W, (((W2.setCell ⟨b1 + 1, 0, none⟩ (.int .i64 i0)).setCell ⟨b1 + 1, 1, none⟩ (.int .i64 i1)).setCell ⟨b1 + 1, 2, none⟩ (.int .i64 i2)).setCell ⟨b1 + 1, 3, none⟩ (.int .i64 i3) = W := ⟨_, rfl⟩
  rw [hW3] at a3 g3
  have a13 : AnsB W3 b1 noA := row_grownQ (row_belowQ a1 hb2) g3 (by omega)
  have hb3 : Below w.heap.size w W3 := (hbe.trans (hb2.mono hbe.size)).grown g3 (by have := hbe.size; have := hb2.size; omega) (fun j e => by cases e; omega)
  obtain ⟨z0, z1, z2, z3, z4, z5, z6, z7⟩ := a2.facts
  obtain ⟨y0, y1, y2, y3, -, -, -, -⟩ := a3.facts
  obtain ⟨x0, x1, x2, x3, x4, x5, x6, x7⟩ := a13.facts
  simp only [noA] at z0 z1 z2 z3 y0 y1 y2 y3 x0 x1 x2 x3
  have HB1 := Lib.hid hb1
  have HW1 := Lib.hid hW1
  have HW3 := Lib.hid hW3
  have A13 := Lib.hid a13
  have HB3 := Lib.hid hb3
  clear h hb1 hW1 hbe a1 hq1 a2 hb2 a3 g3 hW3 a13 hb3 hhs hxa hid
  go_enter Tryd.func17, Tryd.ntmps17
  go_upto_region 1 with fail
  rw [HB1.out, HW1.out]
  go_upto_region 4 with fail
  rw [HW3.out]
  clear z0 z1 z2 z3 z4 z5 z6 z7 c3 hlk hW2 s1
  go_wp2_with fail
  obtain ⟨a9, g9⟩ := A13.out.store ⟨i0, i1, i2, i3⟩
  have hbs := HB3.out.size
  exact bodyPost_ret (results_cq rfl _ _ b1 _ _ (0, 0) _ (.bool hs) rfl rfl a9 Tryd.underlying36 rfl (by kernel_rfl)) rfl ⟨rfl, HB3.out.grown g9 hbs (fun j e => by cases e; have := HB1.out; omega)⟩
end Go.Proofs.YtnkfnmkbfnhmfaaDoor
namespace Go.Proofs.YtnkfnmkbfnhmfaaDoor
open Go Go.RowKit Go.Shelf Go.Proofs Go.ChangeMaps Go.Maps Go.WideMaps
attribute [local go_sem] Oper.semAt_some

def qA : DX := ⟨1, ⟨#[97]⟩, none, 0, []⟩
theorem apply_qA : ∃ f, applyT (flsX (bareX [])) ([qA].map DX.dl) = .ok f := ⟨[([97], [])], by kernel_rfl⟩
theorem small_qA : SmallD [qA] := ⟨by simp, fun x hx => by
  obtain rfl : x = qA := by simpa using hx
  exact ⟨by decide, by decide⟩⟩
def DelB (W : World) (d : Nat) : Prop := W.heap[d]? = some (.cells #[.int .i64 1, .string ⟨#[97]⟩, .slice none 0 0] 51 (0, 0))
theorem DelB.dels {W : World} {d : Nat} (h : DelB W d) : DelsAt W (some ⟨d, 0, none⟩) 1 [qA] := by
  refine ⟨Nat.le_refl _, by unfold maxLen; omega, fun _ => ⟨d, 0, rfl, fun i x hx => ?_⟩, fun x hx => ?_⟩
  · have hi : i = 0 := by
      have := (List.getElem?_eq_some_iff.1 hx).1
      simpa using this
    subst hi
    obtain rfl : qA = x := by simpa using hx
    exact ⟨cell_of_row W d 0 _ _ _ h, cell_of_row W d 1 _ _ _ h, cell_of_row W d 2 _ _ _ h⟩
  · obtain rfl : x = qA := by simpa using hx
    exact BytesAt.nil _ _
theorem key_int (a : Int) (h1 : -9223372036854775808 ≤ a) (h2 : a ≤ 9223372036854775807) : keyOf Tryd.prog 3 (.int .i64 a) = some (.int .i64 a) := by
  refine keyOf_int_mk (P := Tryd.prog) Tryd.underlying3 ?_
  simp only [Lit.wf, Bool.and_eq_true, decide_eq_true_eq]
  exact ⟨h1, h2⟩
theorem late_one {M : Bs → Nat} {bs : Int} {l : List DX} (h : l.map DX.dl = [qA].map DX.dl) : lateQ M bs l = decide (bs < (M [97] : Int)) := by
  have hp : pathsX l = [[97]] := by
    have : pathsX l = (l.map DX.dl).map Dl.p := by unfold pathsX; rw [List.map_map]; rfl
    rw [this, h]; rfl
  unfold lateQ
  rw [hp]; simp
set_option maxRecDepth 100000 in
set_option maxHeartbeats 16000000 in
theorem qknown_any (w : World) (hm : MaxOk w) : Calls Tryd.prog 8 #[] w fun e w' => e = .returned (.bool true) ∧ Below w.heap.size w w' := by
  have HNEW := Lib.hid (hnew_any [] none 0 w (TreeAt.nil _ _ _ (Nat.zero_le _)) (fun x hx => by cases hx) hm)
  have HM := Lib.hid hm
  clear hm
  go_enter Tryd.func8, Tryd.ntmps8
  go_wp2_with fail
  refine HNEW.out.mono ?_
  intro e w1 hp
  unfold NewPost at hp
  rw [if_pos (by rfl)] at hp
  obtain ⟨hb, nv, cv, mb, k, D, G0, l0, rfl, hH, -, hb1⟩ := hp
  have HQN := Lib.hid (qnew_any hb 5 5 w1 (by decide))
  go_wp2_with fail
  refine HQN.out.mono ?_
  rintro e w2 ⟨qb, ab, rfl, hab, hq2, hb2⟩
  have hne : ab ≠ mb := by
    obtain ⟨es, ck, hy⟩ := hH.map.block
    have := (Array.getElem?_eq_some_iff.1 hy).1
    omega
  have hbw2 := hb1.trans (hb2.mono hb1.size)
  have hq2 := hq2.lower hb1.size
  have hH2 := hH.below hb2
  obtain ⟨d, hd⟩ : ∃ b, w2.heap.size = b := ⟨_, rfl⟩
  obtain ⟨W3, hW3⟩ : ∃ W, w2.alloc (.cells #[.int .i64 1, .string ⟨#[97]⟩, .slice none 0 0] 51) = W := ⟨_, rfl⟩
  have s3 : W3.heap.size = d + 1 := by rw [← hW3, ← hd]; simp
  have d3 : DelB W3 d := by unfold DelB; rw [← hW3, ← hd]; exact heap_alloc_new _ _
  have hb3 : Below w2.heap.size w2 W3 := by rw [← hW3]; exact (Below.refl _ _).alloc (Nat.le_refl _) _
  obtain ⟨W4, hW4⟩ : ∃ W, W3.alloc (.cells #[.int .i64 0, .int .i64 0, .slice none 0 0] 42) = W := ⟨_, rfl⟩
  have r4 : ReqB W4 (d + 1) (.int .i64 0) (.int .i64 0) (.slice none 0 0) := by unfold ReqB; rw [← hW4, ← s3]; exact heap_alloc_new _ _
  have hb4 : Below W3.heap.size W3 W4 := by rw [← hW4]; exact (Below.refl _ _).alloc (Nat.le_refl _) _
  obtain ⟨r5, g5⟩ := r4.store (x' := .int .i64 5) (y' := .int .i64 0) (z' := .slice (some ⟨d, 0, none⟩) 1 1)
  obtain ⟨W5, hW5⟩ : ∃ W, ((W4.setCell ⟨d + 1, 0, none⟩ (.int .i64 5)).setCell ⟨d + 1, 1, none⟩ (.int .i64 0)).setCell ⟨d + 1, 2, none⟩ (.slice (some ⟨d, 0, none⟩) 1 1) = W := ⟨_, rfl⟩
  rw [hW5] at r5 g5
  have hb5 : Below W3.heap.size W3 W5 := hb4.grown g5 hb4.size (fun j e => by cases e; omega)
  have d5 : DelB W5 d := row_belowQ d3 hb5
  have hb25 : Below w2.heap.size w2 W5 := hb3.trans (hb5.mono hb3.size)
  have hq5 := hq2.below hb25
  have hH5 := hH2.below hb25
  have hbw5 := hbw2.trans (hb25.mono hbw2.size)
  have hsub := submit_any hq5 hH5 ⟨5, 0, some ⟨d, 0, none⟩, 1, [qA]⟩ hbw5.size d5.dels small_qA (by simp) (key_int 5 (by omega) (by omega))
  have HSUB := Lib.hid hsub
  obtain ⟨y0, y1, y2, y3, y4, y5⟩ := r4.facts
  obtain ⟨x0, x1, x2, -, -, -⟩ := r5.facts
  have HNE := Lib.hid hne
  have HQ5 := Lib.hid hq5
  have HH5 := Lib.hid hH5
  have HBW5 := Lib.hid hbw5
  have D5 := Lib.hid d5
  have R5 := Lib.hid r5
  have HW5 := Lib.hid hW5
  have HD := Lib.hid hd
  clear hne hbw2 hq2 hH2 hH hb1 hb2 d3 hb3 r4 hb4 r5 g5 hb5 d5 hb25 hq5 hH5 hbw5 hsub hab hW5
  go_upto_region 4 with fail
  rw [HW5.out]
  clear y0 y1 y2 y3 y4 y5 hW3 hW4 hd s3
  obtain ⟨X, hX⟩ : ∃ X : QX, X = ⟨5, 0, some ⟨d, 0, none⟩, 1, [qA]⟩ := ⟨_, rfl⟩
  have hXv : X.v = .agg #[.int .i64 5, .int .i64 0, .slice (some ⟨d, 0, none⟩) 1 1] := by rw [hX]; rfl
  rw [← hX, hXv] at HSUB
  have hX1 : X.id = 5 := by rw [hX]
  have hX2 : X.base = 0 := by rw [hX]
  have hX3 : X.l = [qA] := by rw [hX]
  have HX := Lib.hid hX
  clear hX
  go_wp2_with fail
  refine HSUB.out.mono ?_
  rintro e w6 ⟨rfl, hp6⟩
  have hse : subE 0 5 [] [] X = 0 := by unfold subE; rw [hX1, hX2, hX3]; rfl
  rw [hse] at hp6 ⊢
  rcases hp6 with ⟨h, _⟩ | ⟨_, v6, Y, hq6, ⟨hY1, hY2, hY3⟩, ht6, hv6⟩
  · exact absurd rfl h
  have hH6 := HH5.out.turned HQ5.out ht6
  have hbw6 := HBW5.out.trans (ht6.below (n := w.heap.size) (fun j e => by
    rcases e with rfl | e
    · exact HQ5.out.lq
    · cases e) HBW5.out.size)
  rw [hX1] at hY1
  rw [hX2] at hY2
  rw [hX3] at hY3
  rw [List.nil_append] at hq6
  have hnr : d + 1 ≠ qb := fun e => by
    have h := R5.out
    unfold ReqB at h
    rw [e, HQ5.out.heap] at h; cases h
  have hnd : d ≠ qb := fun e => by
    have h := D5.out
    unfold DelB at h
    rw [e, HQ5.out.heap] at h; cases h
  have r6 : ReqB w6 (d + 1) (.int .i64 5) (.int .i64 0) (.slice (some ⟨d, 0, none⟩) 1 1) := (ht6.block (d + 1) (Array.getElem?_eq_some_iff.1 R5.out).1 (fun e => by
    rcases e with e | e
    · exact hnr e
    · cases e)).trans R5.out
  have d6 : DelB w6 d := (ht6.block d (Array.getElem?_eq_some_iff.1 D5.out).1 (fun e => by
    rcases e with e | e
    · exact hnd e
    · cases e)).trans D5.out
  have hstep := step_any w hq6 hH6 HNE.out hbw6 true (by omega) (by simp) (by simp) HM.out (by rw [hY1]; exact key_int 5 (by omega) (by omega))
  have HST := Lib.hid hstep
  have HBW6 := Lib.hid hbw6
  have R6 := Lib.hid r6
  have D6 := Lib.hid d6
  have HV6 := Lib.hid hv6
  have HY := Lib.hid (show Y.id = 5 ∧ Y.base = 0 ∧ Y.l.map DX.dl = [qA].map DX.dl from ⟨hY1, hY2, hY3⟩)
  have hw56 : w6.heap.size ≥ W5.heap.size := ht6.size
  have hdw := (Array.getElem?_eq_some_iff.1 R5.out).1
  have HNR := Lib.hid hnr
  have HND := Lib.hid hnd
  clear x0 x1 x2 hse hq6 ht6 hv6 hH6 hbw6 hnr hnd r6 d6 hstep hY1 hY2 hY3 HSUB
  go_wp2_with fail
  refine HST.out.mono ?_
  rintro e w7 ⟨a, v7, rfl, hq7, hst7, hbw7, hf7, hv7⟩
  have hl7 : lateQ (fun _ => 0) Y.base Y.l = false := by rw [late_one HY.out.2.2, HY.out.2.1]; rfl
  obtain ⟨f0, hf0⟩ := apply_qA
  have ha : a = ⟨5, 1, 1, 0⟩ ∧ ∃ nm' nv cv k D G M', HistAt w.heap.size w7 hb 1 nm' M' nv cv mb k D ((G, Y.l) :: [(G0, l0)]) := by
    rcases hst7 with ⟨h | ⟨_, h, _⟩ | ⟨_, _, q, _, h, _⟩, _⟩ | ⟨_, _, h, nm', nv', cv', k', D', G', _, h2⟩
    · rw [hl7] at h; exact absurd h.1 (by decide)
    · cases h
    · rw [HY.out.2.2, hf0] at h; cases h
    · exact ⟨by rw [h, HY.out.1]; rfl, nm', nv', cv', k', D', G', _, h2⟩
  obtain ⟨rfl, nm7, nv7, cv7, k7, D7, G7, M7, hH7⟩ := ha
  simp only [AX.v]
  have hvn : ∀ j, j < W5.heap.size → v6.ownBlock ≠ some j := fun j hj e => by
    rcases HV6.out j e with h | h
    · cases h
    · omega
  have hdw2 := (Array.getElem?_eq_some_iff.1 D5.out).1
  have r7 : ReqB w7 (d + 1) (.int .i64 5) (.int .i64 0) (.slice (some ⟨d, 0, none⟩) 1 1) := (hf7.cells (d + 1) _ _ (by decide) HNR.out (hvn _ hdw) R6.out).trans R6.out
  have d7 : DelB w7 d := (hf7.cells d _ _ (by decide) HND.out (hvn _ hdw2) D6.out).trans D6.out
  obtain ⟨b8, hb8⟩ : ∃ b, w7.heap.size = b := ⟨_, rfl⟩
  obtain ⟨W8, hW8⟩ : ∃ W, w7.alloc (.cells #[.int .i64 0, .int .i64 0, .int .i64 0, .int .i64 0] 36) = W := ⟨_, rfl⟩
  have a8 : AnsB W8 b8 noA := by unfold AnsB; rw [← hW8, ← hb8]; exact heap_alloc_new _ _
  have hbl8 : Below w7.heap.size w7 W8 := by rw [← hW8]; exact (Below.refl _ _).alloc (Nat.le_refl _) _
  obtain ⟨a9, g9⟩ := a8.store ⟨5, 1, 1, 0⟩
  simp only at a9 g9
  obtain ⟨W9, hW9⟩ : ∃ W, (((W8.setCell ⟨b8, 0, none⟩ (.int .i64 5)).setCell ⟨b8, 1, none⟩ (.int .i64 1)).setCell ⟨b8, 2, none⟩ (.int .i64 1)).setCell ⟨b8, 3, none⟩ (.int .i64 0) = W := ⟨_, rfl⟩
  rw [hW9] at a9 g9
  have hbl9 : Below w7.heap.size w7 W9 := hbl8.grown g9 hbl8.size (fun j e => by cases e; omega)
  have r9 : ReqB W9 (d + 1) (.int .i64 5) (.int .i64 0) (.slice (some ⟨d, 0, none⟩) 1 1) := row_belowQ r7 hbl9
  have d9 : DelB W9 d := row_belowQ d7 hbl9
  have hz67 := hf7.size
  have hbw9 := (HBW6.out.trans hbw7).trans (hbl9.mono (by have := HBW6.out.size; omega))
  have hs9 := submit_any (hq7.below hbl9) (hH7.below hbl9) X hbw9.size (by rw [HX.out]; exact d9.dels) (by rw [hX3]; exact small_qA) (by simp) (by rw [hX1]; exact key_int 5 (by omega) (by omega))
  have hse9 : subE 1 5 [] [⟨5, 1, 1, 0⟩] X = 12 := by unfold subE; rw [hX1, hX2, hX3]; rfl
  rw [hXv] at hs9
  have HS9 := Lib.hid hs9
  have HSE9 := Lib.hid hse9
  obtain ⟨z0, z1, z2, z3, z4, z5, z6, z7⟩ := a8.facts
  obtain ⟨x0, x1, x2, -, -, -⟩ := r9.facts
  simp only [noA] at z0 z1 z2 z3
  have HW9 := Lib.hid hW9
  have HBW9 := Lib.hid hbw9
  have A9 := Lib.hid a9
  have R9 := Lib.hid (show ReqB W9 (d + 1) (.int .i64 5) (.int .i64 0) (.slice (some ⟨d, 0, none⟩) 1 1) from r9)
  clear hq7 hst7 hbw7 hf7 hv7 hl7 hf0 hH7 r7 d7 a8 hbl8 a9 g9 hW9 hbl9 r9 d9 hbw9 hs9 hse9
  go_upto_region 6 with fail
  rw [HW9.out]
  clear z0 z1 z2 z3 z4 z5 z6 z7 hW8 hb8
  go_wp2_with fail
  refine HS9.out.mono ?_
  rintro e w10 ⟨rfl, hp10⟩
  rw [HSE9.out] at hp10 ⊢
  rcases hp10 with ⟨_, hb10⟩ | ⟨h, _⟩
  · have r10 := row_belowQ R9.out hb10
    have a10 : AnsB w10 b8 ⟨5, 1, 1, 0⟩ := row_belowQ A9.out hb10
    have HB10 := Lib.hid (HBW9.out.trans (hb10.mono HBW9.out.size))
    have hnil := submit_nil X w10
    rw [hXv] at hnil
    have HNIL := Lib.hid hnil
    obtain ⟨x0, x1, x2, -, -, -⟩ := (show ReqB w10 (d + 1) (.int .i64 5) (.int .i64 0) (.slice (some ⟨d, 0, none⟩) 1 1) from r10).facts
    obtain ⟨y0, y1, y2, y3, -, -, -, -⟩ := a10.facts
    simp only at y0 y1 y2 y3
    clear hb10 r10 a10 hnil
    go_wp2_with fail
    refine HNIL.out.mono ?_
    rintro e w11 ⟨rfl, hb11⟩
    have HB11 := Lib.hid (HB10.out.trans (hb11.mono HB10.out.size))
    clear hb11
    go_wp2_with fail
    go_ret
    exact ⟨rfl, HB11.out⟩
  · cases h
end Go.Proofs.YtnkfnmkbfnhmfaaDoor
namespace Go.Proofs.YtnkfnmkbfnhmfaaDoor
open Go Go.RowKit Go.Shelf Go.Proofs Go.ChangeMaps Go.Maps Go.WideMaps
attribute [local go_sem] Oper.semAt_some

theorem sub_free {n rm : Nat} {R : List QX} {L : List AX} {x : QX} (h1 : 1 ≤ x.id) (h2 : x.l.length ≠ 0) (h3 : x.base = 0) (h4 : hasA L x.id = false) (h5 : waitsQ R x.id = false) (h6 : R.length < rm) : subE n rm R L x = 0 := by
  unfold subE
  rw [if_neg (by omega), if_neg (by omega), h4, h5, if_neg (by decide), if_neg (by omega)]
theorem sub_full {n rm : Nat} {R : List QX} {L : List AX} {x : QX} (h1 : 1 ≤ x.id) (h2 : x.l.length ≠ 0) (h3 : x.base = 0) (h4 : hasA L x.id = false) (h5 : waitsQ R x.id = false) (h6 : rm ≤ R.length) : subE n rm R L x = 8 := by
  unfold subE
  rw [if_neg (by omega), if_neg (by omega), h4, h5, if_neg (by decide), if_pos h6]
theorem sub_twice {n rm : Nat} {R : List QX} {L : List AX} {x : QX} (h1 : 1 ≤ x.id) (h2 : x.l.length ≠ 0) (h3 : x.base = 0) (h4 : (hasA L x.id || waitsQ R x.id) = true) : subE n rm R L x = 12 := by
  unfold subE
  rw [if_neg (by omega), if_neg (by omega), h4, if_pos rfl]
theorem hasA_no {a : AX} {i : Int} (h : a.id ≠ i) : hasA [a] i = false := by
  unfold hasA ansOf; rw [List.find?_cons_of_neg (by simpa using h)]; rfl
def idsTo (k : Nat) : List Int := (List.range k).map fun (i : Nat) => (i : Int) + 1
theorem idsTo_succ (k : Nat) : idsTo (k + 1) = idsTo k ++ [((k + 1 : Nat) : Int)] := by
  unfold idsTo; rw [List.range_succ, List.map_append]; simp
theorem waits_new {R : List QX} {k : Nat} (h : ∀ x ∈ R, x.id ∈ idsTo k) (m : Int) (hm : (k : Int) < m) : waitsQ R m = false := by
  unfold waitsQ
  rw [List.any_eq_false]
  intro x hx
  have h1 := h x hx
  unfold idsTo at h1
  obtain ⟨i, hi, e⟩ := List.mem_map.1 h1
  have := List.mem_range.1 hi
  simp only [decide_eq_true_eq]
  omega
def qM (bb : Nat) : DX := ⟨2, ⟨#[97]⟩, some ⟨bb, 0, none⟩, 1, [98]⟩
def mX (d bb : Nat) (i : Int) : QX := ⟨i, 0, some ⟨d, 0, none⟩, 1, [qM bb]⟩
theorem mX_v (d bb : Nat) (i : Int) : (mX d bb i).v = .agg #[.int .i64 i, .int .i64 0, .slice (some ⟨d, 0, none⟩) 1 1] := rfl
theorem small_qM (bb : Nat) : SmallD [qM bb] := ⟨by simp, fun x hx => by
  obtain rfl : x = qM bb := by simpa using hx
  exact ⟨show 1 ≤ 1000000 by omega, show 1 ≤ 1000000 by omega⟩⟩
structure DelM (W : World) (d bb : Nat) : Prop where
  row : W.heap[d]? = some (.cells #[.int .i64 2, .string ⟨#[97]⟩, .slice (some ⟨bb, 0, none⟩) 1 1] 51 (0, 0))
  byte : W.heap[bb]? = some (.cells #[.int .u8 98] 5 (1, 2))
theorem DelM.dels {W : World} {d bb : Nat} (h : DelM W d bb) : DelsAt W (some ⟨d, 0, none⟩) 1 [qM bb] := by
  refine ⟨Nat.le_refl _, by unfold maxLen; omega, fun _ => ⟨d, 0, rfl, fun i x hx => ?_⟩, fun x hx => ?_⟩
  · have hi : i = 0 := by
      have := (List.getElem?_eq_some_iff.1 hx).1
      simpa using this
    subst hi
    obtain rfl : qM bb = x := by simpa using hx
    exact ⟨cell_of_row W d 0 _ _ _ h.row, cell_of_row W d 1 _ _ _ h.row, cell_of_row W d 2 _ _ _ h.row⟩
  · obtain rfl : x = qM bb := by simpa using hx
    refine fun _ => ⟨bb, 0, rfl, fun i hi => ?_⟩
    obtain rfl : i = 0 := by have : i < 1 := hi; omega
    simp only [World.cell?, h.byte, Option.isSome_none, Nat.zero_add]
    rfl
theorem DelM.below {W W' : World} {d bb : Nat} (h : DelM W d bb) (hb : Below W.heap.size W W') : DelM W' d bb := ⟨row_belowQ h.row hb, row_belowQ h.byte hb⟩
def fA : FX := ⟨⟨#[97]⟩, none, 0, []⟩
theorem tree_fA {W : World} {g : Nat} (h : W.heap[g]? = some (.cells #[.string ⟨#[97]⟩, .slice none 0 0] 57 (0, 0))) : TreeAt W (some ⟨g, 0, none⟩) 1 [fA] := by
  refine ⟨Nat.le_refl _, by unfold maxLen; omega, fun _ => ⟨g, 0, rfl, fun i x hx => ?_⟩, fun x hx => ?_⟩
  · have hi : i = 0 := by
      have := (List.getElem?_eq_some_iff.1 hx).1
      simpa using this
    subst hi
    obtain rfl : fA = x := by simpa using hx
    exact ⟨cell_of_row W g 0 _ _ _ h, cell_of_row W g 1 _ _ _ h⟩
  · obtain rfl : x = fA := by simpa using hx
    exact BytesAt.nil _ _
theorem late_zero (l : List DX) : lateQ (fun _ => 0) 0 l = false := by
  unfold lateQ; simp
set_option maxRecDepth 100000 in
set_option maxHeartbeats 16000000 in
theorem qrooms_any (s : Int) (w : World) (hs : 0 ≤ s ∧ s ≤ 255) (hm : MaxOk w) : Calls Tryd.prog 5 #[.int .u8 s] w fun e w' => e = .returned (.bool true) ∧ Below w.heap.size w w' := by
  obtain ⟨b0, hb0⟩ : ∃ b, w.heap.size = b := ⟨_, rfl⟩
  obtain ⟨W1, hW1⟩ : ∃ W, w.alloc (.cells #[.string ⟨#[97]⟩, .slice none 0 0] 57) = W := ⟨_, rfl⟩
  have f1 : W1.heap[b0]? = some (.cells #[.string ⟨#[97]⟩, .slice none 0 0] 57 (0, 0)) := by rw [← hW1, ← hb0]; exact heap_alloc_new _ _
  have hb1 : Below w.heap.size w W1 := by rw [← hW1]; exact (Below.refl _ _).alloc (Nat.le_refl _) _
  have hm1 : MaxOk W1 := hm.below hb1
  have HNEW := Lib.hid (hnew_any [fA] (some ⟨b0, 0, none⟩) 1 W1 (tree_fA f1) (fun x hx => by obtain rfl : x = fA := by simpa using hx
                                                                                             decide) hm1)
  have HM := Lib.hid hm1
  have HB1 := Lib.hid hb1
  obtain ⟨N, hN⟩ : ∃ N : Nat, (N : Int) = 1 + s % 30 := ⟨(1 + s % 30).toNat, by omega⟩
  have n1 : 1 ≤ N := by omega
  have n2 : N ≤ 30 := by omega
  have HW1 := Lib.hid hW1
  clear hm hm1 f1 hb1
  go_enter Tryd.func5, Tryd.ntmps5
  go_wp2_with fail
  refine HNEW.out.mono ?_
  intro e w2 hp
  unfold NewPost at hp
  rw [if_pos (by kernel_rfl)] at hp
  obtain ⟨hb, nv, cv, mb, k0, D, G0, l0, rfl, hH, -, hb2⟩ := hp
  have HQN := Lib.hid (qnew_any hb N (1 + s % 30) w2 (by omega))
  go_wp2_with fail
  refine HQN.out.mono ?_
  rintro e w3 ⟨qb, ab, rfl, hab, hq3, hb3⟩
  have hne : ab ≠ mb := by
    obtain ⟨es, ck, hy⟩ := hH.map.block
    have := (Array.getElem?_eq_some_iff.1 hy).1
    omega
  have hbw3 := hb2.trans (hb3.mono hb2.size)
  have hq3 := hq3.lower hb2.size
  have hH3 := hH.below hb3
  have hbw3s := hbw3.size
  have k3 := Lib.run_convert_bytes_const (P := Tryd.prog) w3 48 5 #[.int .u8 98] 1 1 Tryd.underlying48 Tryd.underlying5
  simp only [show (#[Value.int .u8 98] : Array Value).size = 1 from rfl, Nat.reduceAdd] at k3
  obtain ⟨bb, hbb⟩ : ∃ b, w3.heap.size = b := ⟨_, rfl⟩
  rw [hbb] at hbw3s k3
  obtain ⟨W4, hW4⟩ : ∃ W, w3.alloc (.cells #[.int .u8 98] 5 (1, 2)) = W := ⟨_, rfl⟩
  rw [hW4] at k3
  have s4 : W4.heap.size = bb + 1 := by rw [← hW4, ← hbb]; simp
  have b4 : W4.heap[bb]? = some (.cells #[.int .u8 98] 5 (1, 2)) := by rw [← hW4, ← hbb]; exact heap_alloc_new _ _
  have hb4 : Below w3.heap.size w3 W4 := by rw [← hW4]; exact (Below.refl _ _).alloc (Nat.le_refl _) _
  obtain ⟨W5, hW5⟩ : ∃ W, W4.alloc (.cells #[.int .i64 2, .string ⟨#[97]⟩, .slice (some ⟨bb, 0, none⟩) 1 1] 51) = W := ⟨_, rfl⟩
  have s5 : W5.heap.size = bb + 2 := by rw [← hW5]; simp [s4]
  have hb5 : Below W4.heap.size W4 W5 := by rw [← hW5]; exact (Below.refl _ _).alloc (Nat.le_refl _) _
  have d5 : DelM W5 (bb + 1) bb := ⟨by rw [← hW5, ← s4]; exact heap_alloc_new _ _, row_belowQ b4 hb5⟩
  have hb35 : Below w3.heap.size w3 W5 := hb4.trans (hb5.mono hb4.size)
  have hbw5 := hbw3.trans (hb35.mono hbw3.size)
  have HQ5 := Lib.hid (hq3.below hb35)
  have HH5 := Lib.hid (hH3.below hb35)
  have HBW5 := Lib.hid hbw5
  have HNE := Lib.hid hne
  have D5 := Lib.hid d5
  have HW4 := Lib.hid hW4
  have HW5 := Lib.hid hW5
  clear hne hbw3 hq3 hH3 hH hb2 hb3 b4 hb4 hb5 d5 hb35 hbw5 hab hW5
  go_upto_region 5 with fail
  rw [HW5.out]
  clear k3 hW4 hbb s4
  go_wp2_with fail
  go_loopw [8] (fun v8 wr => ∃ (k : Nat) (R : List QX) (v : Value), v8 = .int .i64 ((k : Int) + 1) ∧ k ≤ N ∧ Hid (R.map QX.id = idsTo k) ∧ Hid (∀ x ∈ R, x.base = 0) ∧ Hid (QueueAt W1.heap.size wr qb hb ab N v R []) ∧ Hid (HistAt W1.heap.size wr hb 0 (bareX [fA]) (fun _ => 0) nv cv mb k0 D [(G0, l0)]) ∧ Hid (Below W1.heap.size W1 wr) ∧ Hid (DelM wr (bb + 1) bb) ∧ Hid (∀ j, v.ownBlock = some j → bb + 2 ≤ j) ∧ Hid (bb + 2 ≤ wr.heap.size)) (fun v8 _ => N + 1 - (intOf v8).toNat)
  case atStart => exact ⟨0, [], .slice none 0 0, rfl, Nat.zero_le _, Lib.hid rfl, Lib.hid (by simp), HQ5, HH5, HBW5, D5, Lib.hid (fun j h => by cases h), Lib.hid (Nat.le_of_eq s5.symm)⟩
  case round =>
    obtain ⟨k, R, v, rfl, hk, HI, HZ, HQ, HH, HB, HD, HV, HS⟩ := hrel
    have hlR : R.length = k := by
      have := congrArg List.length (show R.map QX.id = idsTo k from HI.out)
      rw [List.length_map] at this
      rw [this]; unfold idsTo; simp
    have hin : ∀ x ∈ R, x.id ∈ idsTo k := fun x hx => by
      rw [← (show R.map QX.id = idsTo k from HI.out)]; exact List.mem_map_of_mem hx
    have hsub := submit_any HQ.out HH.out (mX (bb + 1) bb ((k : Int) + 1)) HB.out.size HD.out.dels (small_qM bb) (by omega) (key_int _ (by show _ ≤ (k : Int) + 1; omega) (by show (k : Int) + 1 ≤ _; omega))
    by_cases hlt : k < N
    · have hse : subE 0 N R [] (mX (bb + 1) bb ((k : Int) + 1)) = 0 := sub_free (by show 1 ≤ (k : Int) + 1; omega) (by show 1 ≠ 0; decide) rfl rfl (waits_new hin _ (by show (k : Int) < (k : Int) + 1; omega)) (by omega)
      rw [mX_v] at hsub
      have HSUB := Lib.hid hsub
      have HSE := Lib.hid hse
      have HLR := Lib.hid hlR
      have q1 : (k : Int) + 1 ≤ 1 + s % 30 := by omega
      clear hsub hse hlR hin
      go_wp2_with fail
      refine HSUB.out.mono ?_
      rintro e w6 ⟨rfl, hp6⟩
      rw [HSE.out] at hp6 ⊢
      rcases hp6 with ⟨h, _⟩ | ⟨_, v6, Y, hq6, ⟨hY1, hY2, hY3⟩, ht6, hv6⟩
      · exact absurd rfl h
      have HH6 := Lib.hid (HH.out.turned HQ.out ht6)
      have HQ6 := Lib.hid hq6
      have HB6 := Lib.hid (HB.out.trans (ht6.below (n := W1.heap.size) (fun j e => by
        rcases e with rfl | e
        · exact HQ.out.lq
        · have := HV.out j e; omega) HB.out.size))
      have HD6 := Lib.hid (show DelM w6 (bb + 1) bb from ⟨(ht6.block _ (Array.getElem?_eq_some_iff.1 HD.out.row).1 (fun e => by
          rcases e with e | e
          · have h := HD.out.row
            rw [e, HQ.out.heap] at h; cases h
          · have := HV.out _ e; omega)).trans HD.out.row, (ht6.block _ (Array.getElem?_eq_some_iff.1 HD.out.byte).1 (fun e => by
          rcases e with e | e
          · have h := HD.out.byte
            rw [e, HQ.out.heap] at h; cases h
          · have := HV.out _ e; omega)).trans HD.out.byte⟩)
      have HS6 := Lib.hid (show bb + 2 ≤ w6.heap.size from Nat.le_trans HS.out ht6.size)
      have HV6 := Lib.hid (show ∀ j, v6.ownBlock = some j → bb + 2 ≤ j from fun j e => by
        rcases hv6 j e with h | h
        · exact HV.out j h
        · exact Nat.le_trans HS.out h)
      have HI6 := Lib.hid (show (R ++ [Y]).map QX.id = idsTo (k + 1) by
        rw [List.map_append, (show R.map QX.id = idsTo k from HI.out), idsTo_succ, List.map_singleton, hY1]; rfl)
      have HZ6 := Lib.hid (show ∀ x ∈ R ++ [Y], x.base = 0 from fun x hx => by
        rcases List.mem_append.1 hx with h | h
        · exact HZ.out x h
        · obtain rfl : x = Y := by simpa using h
          exact hY2)
      clear hq6 ht6 hv6 hY1 hY2 hY3 HSUB
      go_wp2_with fail
      go_roundw
      case rel => exact ⟨k + 1, R ++ [Y], v6, by go_num, by omega, HI6.out, HZ6.out, HQ6.out, HH6.out, HB6.out, HD6.out, HV6.out, HS6.out⟩
      case measure => simp [intOf]; omega
    · have hkN : k = N := by omega
      have hse : subE 0 N R [] (mX (bb + 1) bb ((k : Int) + 1)) = 8 := sub_full (by show 1 ≤ (k : Int) + 1; omega) (by show 1 ≠ 0; decide) rfl rfl (waits_new hin _ (by show (k : Int) < (k : Int) + 1; omega)) (by omega)
      rw [mX_v] at hsub
      have hI : (k : Int) + 1 = 1 + s % 30 + 1 := by omega
      rw [hI] at hsub hse
      have HSUB := Lib.hid hsub
      have HSE := Lib.hid hse
      obtain ⟨x1, T, hRT⟩ : ∃ x T, R = x :: T := by
        cases R with
        | nil => simp at hlR; omega
        | cons x T => exact ⟨x, T, rfl⟩
      subst hRT
      have hid1 : x1.id = 1 := by
        have h := congrArg (fun l => l[0]?) (show (x1 :: T).map QX.id = idsTo k from HI.out)
        simp only [List.map_cons, List.getElem?_cons_zero] at h
        unfold idsTo at h
        rw [List.getElem?_map, List.getElem?_range (by omega)] at h
        have h := Option.some.inj h
        simpa using h
      have hba1 : x1.base = 0 := HZ.out x1 (by simp)
      have hTl : T.length + 1 = N := by rw [← hkN, ← hlR]; rfl
      have HIN := Lib.hid (show ∀ x ∈ T, x.id ∈ idsTo k from fun x hx => hin x (by simp [hx]))
      have HID1 := Lib.hid hid1
      have HBA1 := Lib.hid hba1
      have HKN := Lib.hid hkN
      have q1 : ¬ ((k : Int) + 1 ≤ 1 + s % 30) := by omega
      clear hsub hse hlR hin hid1 hba1
      go_wp2_with fail
      refine HSUB.out.mono ?_
      rintro e w6 ⟨rfl, hp6⟩
      rw [HSE.out] at hp6 ⊢
      rcases hp6 with ⟨_, hb6⟩ | ⟨h, _⟩
      rotate_left
      · cases h
      have hq6 := HQ.out.below hb6
      have hH6 := HH.out.below hb6
      have hB6 := HB.out.trans (hb6.mono HB.out.size)
      have hstep := step_any W1 hq6 hH6 HNE.out hB6 false (by omega) (by omega) (by simp) HM.out (by rw [HID1.out]; exact key_int 1 (by omega) (by omega))
      have HD6 := Lib.hid (HD.out.below hb6)
      have HQ6 := Lib.hid hq6
      have HST := Lib.hid hstep
      have HB6 := Lib.hid hB6
      have HS6 := Lib.hid (Nat.le_trans HS.out hb6.size)
      clear hq6 hH6 hB6 hstep hb6
      go_wp2_with fail
      refine HST.out.mono ?_
      rintro e w7 ⟨a, v7, rfl, hq7, hst7, hbw7, hf7, hv7⟩
      have hl7 : lateQ (fun _ => 0) x1.base x1.l = false := by rw [HBA1.out]; exact late_zero _
      have ha : a = ⟨1, 3, 0, 0⟩ ∧ ∃ nv cv k D, HistAt W1.heap.size w7 hb 0 (bareX [fA]) (fun _ => 0) nv cv mb k D [(G0, l0)] := by
        rcases hst7 with ⟨⟨h, _⟩ | ⟨_, _, h⟩ | ⟨_, h, _⟩, hh⟩ | ⟨_, h, _⟩
        · rw [hl7] at h; cases h
        · exact ⟨by rw [h, HID1.out], hh⟩
        · cases h
        · cases h
      obtain ⟨rfl, nv7, cv7, k7, D7, hH7⟩ := ha
      simp only [AX.v]
      have hv7' : ∀ j, v7.ownBlock = some j → bb + 2 ≤ j := fun j e => HV.out j (by rw [← hv7]; exact e)
      have d7 : DelM w7 (bb + 1) bb := ⟨(hf7.cells _ _ _ (by decide) (fun e => by
          have h := HD6.out.row
          rw [e, HQ6.out.heap] at h; cases h) (fun e => by have := HV.out _ e; omega) HD6.out.row).trans HD6.out.row, (hf7.cells _ _ _ (by decide) (fun e => by
          have h := HD6.out.byte
          rw [e, HQ6.out.heap] at h; cases h) (fun e => by have := HV.out _ e; omega) HD6.out.byte).trans HD6.out.byte⟩
      obtain ⟨b8, hb8⟩ : ∃ b, w7.heap.size = b := ⟨_, rfl⟩
      obtain ⟨W8, hW8⟩ : ∃ W, w7.alloc (.cells #[.int .i64 0, .int .i64 0, .int .i64 0, .int .i64 0] 36) = W := ⟨_, rfl⟩
      have a8 : AnsB W8 b8 noA := by unfold AnsB; rw [← hW8, ← hb8]; exact heap_alloc_new _ _
      have hbl8 : Below w7.heap.size w7 W8 := by rw [← hW8]; exact (Below.refl _ _).alloc (Nat.le_refl _) _
      obtain ⟨a9, g9⟩ := a8.store ⟨1, 3, 0, 0⟩
      simp only at a9 g9
      obtain ⟨W9, hW9⟩ : ∃ W, (((W8.setCell ⟨b8, 0, none⟩ (.int .i64 1)).setCell ⟨b8, 1, none⟩ (.int .i64 3)).setCell ⟨b8, 2, none⟩ (.int .i64 0)).setCell ⟨b8, 3, none⟩ (.int .i64 0) = W := ⟨_, rfl⟩
      rw [hW9] at a9 g9
      have hbl9 : Below w7.heap.size w7 W9 := hbl8.grown g9 hbl8.size (fun j e => by cases e; omega)
      have hB9 := (HB6.out.trans hbw7).trans (hbl9.mono (by have := HB6.out.size; have := hf7.size; omega))
      have hq9 := hq7.below hbl9
      have hH9 := hH7.below hbl9
      have d9 := d7.below hbl9
      have hs9 := submit_any hq9 hH9 (mX (bb + 1) bb (1 + s % 30 + 1)) hB9.size d9.dels (small_qM bb) (by omega) (key_int _ (by show _ ≤ 1 + s % 30 + 1; omega) (by show 1 + s % 30 + 1 ≤ _; omega))
      have hse9 : subE 0 N T [⟨1, 3, 0, 0⟩] (mX (bb + 1) bb (1 + s % 30 + 1)) = 0 := sub_free (by show 1 ≤ 1 + s % 30 + 1; omega) (by show 1 ≠ 0; decide) rfl (hasA_no (by show (1 : Int) ≠ 1 + s % 30 + 1; omega)) (waits_new HIN.out _ (by show (k : Int) < 1 + s % 30 + 1; have := HKN.out; omega)) (by omega)
      rw [mX_v] at hs9
      have HS9 := Lib.hid hs9
      have HSE9 := Lib.hid hse9
      have HQ9 := Lib.hid hq9
      have HH9 := Lib.hid hH9
      have HB9 := Lib.hid hB9
      have HD9 := Lib.hid d9
      have A9 := Lib.hid a9
      have HV7 := Lib.hid hv7'
      have HW9 := Lib.hid hW9
      obtain ⟨z0, z1, z2, z3, z4, z5, z6, z7⟩ := a8.facts
      simp only [noA] at z0 z1 z2 z3
      clear hq7 hst7 hbw7 hf7 hv7 hl7 hH7 hv7' d7 a8 hbl8 a9 g9 hW9 hbl9 hB9 hq9 hH9 d9 hs9 hse9
      go_upto_region 12 with fail
      rw [HW9.out]
      clear z0 z1 z2 z3 z4 z5 z6 z7 hW8 hb8
      go_wp2_with fail
      refine HS9.out.mono ?_
      rintro e w10 ⟨rfl, hp10⟩
      rw [HSE9.out] at hp10 ⊢
      rcases hp10 with ⟨h, _⟩ | ⟨_, v10, Y, hq10, ⟨hY1, hY2, hY3⟩, ht10, hv10⟩
      · exact absurd rfl h
      have hne8 : b8 ≠ qb := fun e => by
        have h := A9.out
        unfold AnsB at h
        rw [e, HQ9.out.heap] at h; cases h
      have hn8 : v7.ownBlock ≠ some b8 := fun e => by
        obtain ⟨_, cur2, hy⟩ := HQ9.out.waits.far e
        have h := A9.out
        unfold AnsB at h
        rw [hy] at h; cases h
      have a10 : AnsB w10 b8 ⟨1, 3, 0, 0⟩ := (ht10.block b8 (Array.getElem?_eq_some_iff.1 A9.out).1 (fun e => by
        rcases e with e | e
        · exact hne8 e
        · exact hn8 e)).trans A9.out
      have hB10 := HB9.out.trans (ht10.below (n := W1.heap.size) (fun j e => by
        rcases e with rfl | e
        · exact HQ9.out.lq
        · have := HV7.out j e; omega) HB9.out.size)
      have hH10 := HH9.out.turned HQ9.out ht10
      have d10 : DelM w10 (bb + 1) bb := ⟨(ht10.block _ (Array.getElem?_eq_some_iff.1 HD9.out.row).1 (fun e => by
          rcases e with e | e
          · have h := HD9.out.row
            rw [e, HQ9.out.heap] at h; cases h
          · have := HV7.out _ e; omega)).trans HD9.out.row, (ht10.block _ (Array.getElem?_eq_some_iff.1 HD9.out.byte).1 (fun e => by
          rcases e with e | e
          · have h := HD9.out.byte
            rw [e, HQ9.out.heap] at h; cases h
          · have := HV7.out _ e; omega)).trans HD9.out.byte⟩
      have hlT : (T ++ [Y]).length = N := by rw [List.length_append]; exact hTl
      have hs10 := submit_any hq10 hH10 (mX (bb + 1) bb 1) hB10.size d10.dels (small_qM bb) (by omega) (key_int _ (by show _ ≤ (1 : Int); omega) (by show (1 : Int) ≤ _; omega))
      have hse10 : subE 0 N (T ++ [Y]) [⟨1, 3, 0, 0⟩] (mX (bb + 1) bb 1) = 12 := sub_twice (by show (1 : Int) ≤ 1; omega) (by show 1 ≠ 0; decide) rfl rfl
      rw [mX_v] at hs10
      have HS10 := Lib.hid hs10
      have HSE10 := Lib.hid hse10
      have HQ10 := Lib.hid hq10
      have HB10 := Lib.hid hB10
      have A10 := Lib.hid a10
      have HLT := Lib.hid hlT
      clear hq10 hY1 hY2 hY3 ht10 hv10 hne8 hn8 a10 hB10 hH10 d10 hlT hs10 hse10 HS9
      go_wp2_with fail
      refine HS10.out.mono ?_
      rintro e w11 ⟨rfl, hp11⟩
      rw [HSE10.out] at hp11 ⊢
      rcases hp11 with ⟨_, hb11⟩ | ⟨h, _⟩
      rotate_left
      · cases h
      have a11 : AnsB w11 b8 ⟨1, 3, 0, 0⟩ := row_belowQ A10.out hb11
      obtain ⟨y0, y1, y2, y3, -, -, -, -⟩ := a11.facts
      simp only at y0 y1 y2 y3
      have HWT := Lib.hid (waits_any (HQ10.out.below hb11) (by rw [HLT.out]; omega))
      have HB11 := Lib.hid (HB10.out.trans (hb11.mono HB10.out.size))
      clear hb11 a11
      go_wp2_with fail
      refine HWT.out.mono ?_
      rintro e w12 ⟨v12, rfl, hown, hb12⟩
      have hv12 : ∃ A c, v12 = .slice A N c := by
        rw [HLT.out] at hown
        rcases hown.2 with ⟨rfl, e⟩ | ⟨g, c, cur, rfl, _⟩
        · exact ⟨none, 0, by rw [e]⟩
        · exact ⟨_, c, rfl⟩
      obtain ⟨A12, c12, rfl⟩ := hv12
      have HB12 := Lib.hid (HB1.out.trans ((HB11.out.trans (hb12.mono HB11.out.size)).mono HB1.out.size))
      have HK := Lib.hid (qknown_any w12 (HM.out.below (HB11.out.trans (hb12.mono HB11.out.size))))
      have q2 : (N : Int) = 1 + s % 30 := by omega
      clear hown hb12
      go_wp2_with fail
      refine HK.out.mono ?_
      rintro e w13 ⟨rfl, hb13⟩
      have HB13 := Lib.hid (HB12.out.trans (hb13.mono HB12.out.size))
      clear hb13
      go_wp2_with fail
      go_ret
      exact ⟨rfl, HB13.out⟩
end Go.Proofs.YtnkfnmkbfnhmfaaDoor
