/-
  The contract of the document's own table of what comes to what.
-/
import Derived.Test.YteigepblocbnlaaGpRefReachB
namespace Go.Proofs.Yteigepblocbnlaa.Gp
open Go Go.RowKit Go.Shelf Go.Proofs
attribute [local go_sem] Oper.semAt_some

def rowV (N g : Nat) : Value := .slice (some ⟨g, 0, none⟩) N N
/-- Rows of what is come to, in a row of the call's own. -/
structure AR (base N : Nat) (m : List EN) (w : World) (A : Option Addr) (c : Nat) (rows : List Nat) : Prop where
  own : w.ownsRow base 25 1 (.slice A rows.length c) rows.length (rows.map (rowV N))
  row : ∀ (i g : Nat), rows[i]? = some g → w.heap[g]? = some (.cells (cellsB (RC N m i)) 4 (0, 0))
theorem AR.nil (base N : Nat) (m : List EN) (w : World) : AR base N m w none 0 [] := ⟨World.ownsRow_nil _ _ _ _, fun i g h => by simp at h⟩
theorem AR.below {base N : Nat} {m : List EN} {w w' : World} {A : Option Addr} {c : Nat} {rows : List Nat} (h : AR base N m w A c rows) (hb : Below w.heap.size w w') : AR base N m w' A c rows :=
  ⟨ownsRow_keepA h.own fun j _ _ _ ho => (hb.block j (Array.getElem?_eq_some_iff.1 ho).1).trans ho, fun i g hg => (hb.block g (Array.getElem?_eq_some_iff.1 (h.row i g hg)).1).trans (h.row i g hg)⟩
theorem AR.low {base N n : Nat} {m : List EN} {w0 w w' : World} {A : Option Addr} {c : Nat} {rows : List Nat} (h : AR base N m w A c rows) (hb : Below n w0 w) (hg : w.grownBy w' (Value.slice A rows.length c).ownBlock) (hn : n ≤ base) (hs : n ≤ w.heap.size) : Below n w0 w' :=
  hb.grown hg hs (fun k e => Nat.le_trans hn (World.ownsRow.lt h.own k e).1)
theorem AR.get {base N : Nat} {m : List EN} {w : World} {A : Option Addr} {c : Nat} {rows : List Nat} (h : AR base N m w A c rows) (hp : 0 < rows.length) : ∃ g0, A = some ⟨g0, 0, none⟩ ∧ ∀ i, i < rows.length → ∃ g, w.cell? ⟨g0, i, none⟩ = some (rowV N g) ∧ ∀ (k : Nat) (b : Bool), (RC N m i)[k]? = some b → w.cell? ⟨g, k, none⟩ = some (.bool b) := by
  have h0 := h.own
  rcases h.own.2 with ⟨_, hn⟩ | ⟨g0, cap, cur, e, hb, hg, _⟩
  · omega
  · simp only [Value.slice.injEq] at e
    obtain ⟨rfl, -, rfl⟩ := e
    refine ⟨g0, rfl, fun i hi => ?_⟩
    have hgi := List.getElem?_eq_getElem hi
    refine ⟨rows[i], ?_, fun k b hk => ?_⟩
    · have h1 := World.ownsRow.cells h0 (g := g0) rfl i (rowV N rows[i]) (by rw [List.getElem?_map, hgi]; rfl)
      rw [Go.WideShapes.add_plain] at h1
      simpa using h1
    · exact (cell_of_row _ _ _ _ _ _ (h.row i _ hgi)).trans (cellsB_get hk)
theorem gp_brow : (Try.prog.info? 25).map (fun i => (i.zero, i.size, i.bytes)) = some (some (.slice none 0 0), 1, 24) := by kernel_rfl
section
variable {w : World} {base N : Nat} {m : List EN} {rows : List Nat} {A : Option Addr} {c g0 : Nat} {o : Oper} {a : Act} {K : Act → World → Prop} {Q : Exit → Act → World → Prop}
theorem wp_appA {g : Nat} (s y : Operand)
    (ho : o.op = .call { callee := .builtin .append, args := #[s, y], argTypes := #[52, 52] }) (hs : a.eval s = .slice A rows.length c) (hown : AR base N m w A c rows)
    (hrow : w.heap[g]? = some (.cells (cellsB (RC N m rows.length)) 4 (0, 0)))
    (hy : a.eval y = .slice (some ⟨g0, 0, none⟩) 1 1) (hc : w.heap[g0]? = some (.cells #[rowV N g] 25 (0, 0))) (hlen : rows.length ≤ 1000000) (hbase : base ≤ w.heap.size)
    (h : ∀ A' c' w', AR base N m w' A' c' (rows ++ [g]) → w.grownBy w' (Value.slice A rows.length c).ownBlock → K (a.put o.dst (.slice A' (rows ++ [g]).length c')) w') : Oper.wp Try.prog o a w K Q := by
  obtain ⟨i0, hi, hz0, hz1, hz2⟩ := info_parts gp_brow
  refine wp_append_own w s y 52 ho base 25 i0 (.slice none 0 0) 1 24 Try.underlying52 hi hz0 hz1 hz2 rfl (by decide) _ rows.length (rows.map (rowV N)) hs hown.own ⟨g0, 0, none⟩ 1 1 [rowV N g] hy rfl
    (World.news_of_block hc) (by intro u hu; simp only [List.mem_singleton] at hu; subst hu; rfl) (by unfold maxLen; omega) (by omega) hbase fun v' w' h1 h2 _ => ?_
  have e1 : (rows ++ [g]).length = rows.length + 1 := by simp
  have keep : ∀ (k i : Nat), w.heap[k]? = some (.cells (cellsB (RC N m i)) 4 (0, 0)) → w'.heap[k]? = some (.cells (cellsB (RC N m i)) 4 (0, 0)) := fun k i hk => by
    refine (h2.block k (Array.getElem?_eq_some_iff.1 hk).1 fun e => ?_).trans hk
    rcases hown.own.2 with ⟨e0, _⟩ | ⟨g1, cap, cur, e0, _, hg, _⟩
    · simp only [Value.slice.injEq] at e0
      obtain ⟨rfl, -, -⟩ := e0
      cases e
    · simp only [Value.slice.injEq] at e0
      obtain ⟨rfl, -, -⟩ := e0
      cases e
      rw [hg] at hk
      have hty := (Obj.cells.inj (Option.some.inj hk)).2.1
      exact absurd hty (by decide)
  have h1' : w'.ownsRow base 25 1 v' (rows ++ [g]).length ((rows ++ [g]).map (rowV N)) := by rw [e1, List.map_append]; exact h1
  have hrows : ∀ (i g' : Nat), (rows ++ [g])[i]? = some g' → w'.heap[g']? = some (.cells (cellsB (RC N m i)) 4 (0, 0)) := fun i g' hg' => by
    rcases Nat.lt_or_ge i rows.length with hi | hi
    · rw [List.getElem?_append_left hi] at hg'; exact keep _ _ (hown.row i g' hg')
    · rw [List.getElem?_append_right hi] at hg'
      obtain ⟨hi0, hge⟩ := List.getElem?_eq_some_iff.1 hg'
      have hii : i = rows.length := by simp at hi0; omega
      subst hii
      simp at hge; subst hge
      exact keep _ _ hrow
  rcases h1'.2 with ⟨_, e0⟩ | ⟨g1, cap, cur, rfl, _⟩
  · rw [e1] at e0; omega
  · exact h _ _ w' ⟨h1', hrows⟩ h2
theorem wpList_appA {g : Nat} {ops : Array Oper} {rest : List Oper} (hgd : o.guard = none) (s y : Operand)
    (ho : o.op = .call { callee := .builtin .append, args := #[s, y], argTypes := #[52, 52] }) (hs : a.eval s = .slice A rows.length c) (hown : AR base N m w A c rows)
    (hrow : w.heap[g]? = some (.cells (cellsB (RC N m rows.length)) 4 (0, 0)))
    (hy : a.eval y = .slice (some ⟨g0, 0, none⟩) 1 1) (hc : w.heap[g0]? = some (.cells #[rowV N g] 25 (0, 0))) (hlen : rows.length ≤ 1000000) (hbase : base ≤ w.heap.size)
    (h : ∀ A' c' w', AR base N m w' A' c' (rows ++ [g]) → w.grownBy w' (Value.slice A rows.length c).ownBlock → wpList Try.prog ops Q rest (a.put o.dst (.slice A' (rows ++ [g]).length c')) w') : wpList Try.prog ops Q (o :: rest) a w :=
  wpList_plain hgd fun _ hK => wp_appA s y ho hs hown hrow hy hc hlen hbase fun A' c' w' h1 h2 => hK _ _ (h A' c' w' h1 h2)
end

set_option maxRecDepth 100000 in
set_option maxHeartbeats 16000000 in
theorem all_any (N : Nat) (A : Option Addr) (c : Nat) (m : List EN) (w : World) (hl : EdgesAt w A (castE m)) (hm2 : m.length ≤ 100000) (hN : N ≤ 2000) (hm : ∀ e ∈ m, e.1 < N ∧ e.2 < N) (hrt : rightB N (castE m) = true) :
    Calls Try.prog 27 #[.int .i64 N, .slice A m.length c] w fun e w' => ∃ A' c' rows, e = .returned (.slice A' N c') ∧ rows.length = N ∧ AR w.heap.size N m w' A' c' rows ∧ Below w.heap.size w w' := by
  have HRC := Lib.hid (fun (f : Nat) (hf : f < N) (w' : World) (h : EdgesAt w' A (castE m)) => refreach_any N f A c m w' h hm2 hN hm hrt hf)
  have HL := Lib.hid hl
  obtain ⟨M, hM⟩ : ∃ M, m.length = M := ⟨_, rfl⟩
  rw [hM] at HRC ⊢
  clear hM hm hrt hl hm2
  go_enter Try.func27, Try.ntmps27
  go_wp2_with fail
  go_loopw [5, 6] (fun s y wr => ∃ (k q : Nat) (rows : List Nat) (A' : Option Addr) (c' : Nat), k ≤ N ∧ s = .slice A' q c' ∧ y = .int .i64 k ∧ Hid (rows.length = q ∧ q = k) ∧ Hid (AR w.heap.size N m wr A' c' rows) ∧ Hid (Below w.heap.size w wr)) (fun _ y _ => N - (intOf y).toNat)
  case atStart => exact ⟨0, 0, [], none, 0, Nat.zero_le _, rfl, rfl, ⟨rfl, rfl⟩, AR.nil _ _ _ _, Below.refl _ _⟩
  case round =>
    obtain ⟨k, q, rows, A', c', hk, rfl, rfl, HQ, HO, HB⟩ := hrel
    by_cases h1 : k < N
    · have q1 : (k : Int) < (N : Int) := by omega
      have wk : IntKind.i64.wrap (k : Int) = (k : Int) := IntWalk.i64_in _ (by omega)
      have wk1 : IntKind.i64.wrap ((k : Int) + 1) = (k : Int) + 1 := IntWalk.i64_in _ (by omega)
      go_wp2_with fail
      refine (HRC.out k h1 _ (HL.out.below HB.out)).mono ?_
      rintro e w2 ⟨g, rfl, hg, hb2, hge⟩
      have HO2 := Lib.hid (HO.out.below hb2)
      have HB2 := Lib.hid (HB.out.trans (hb2.mono HB.out.size))
      have HG := Lib.hid hg
      clear hb2 hg hge
      go_wp2_with (at_builtin; go_loud (refine wpList_appA (rows := rows) (base := w.heap.size) (g := g) (N := N) (m := m) (A := A') (c := c') rfl _ _ rfl (by rw [HQ.out.1]; first | done | rfl) (HO2.out.below ((Below.refl _ w2).alloc (Nat.le_refl _) _)) (by rw [HQ.out.1, HQ.out.2]; exact (((Below.refl w2.heap.size w2).alloc (Nat.le_refl _) _).block _ (Array.getElem?_eq_some_iff.1 HG.out).1).trans HG.out) rfl (World.alloc_heap_new _ _) (by rw [HQ.out.1, HQ.out.2]; omega) (by rw [World.size_alloc]; have := HB2.out.size; omega) ?_; intro A8 c8 w8 hown8 hgr8; have HOW := Lib.hid hown8; have HLOW := Lib.hid (AR.low (HO2.out.below ((Below.refl _ w2).alloc (Nat.le_refl _) (.cells #[rowV N g] 25))) (HB2.out.alloc HB2.out.size _) hgr8 (Nat.le_refl _) (by rw [World.size_alloc]; have := HB2.out.size; omega)); clear hown8 hgr8))
      go_roundw
      case rel => exact ⟨k + 1, _, rows ++ [g], A8, c8, by omega, rfl, by go_num, ⟨by simp, by have := HQ.out; omega⟩, HOW.out, HLOW.out⟩
      case measure => simp [intOf]; omega
    · obtain rfl : k = N := by omega
      have hq := HQ.out.2
      subst hq
      go_wp2_with fail
      go_ret
      exact ⟨_, _, rfl, rows, HQ.out.1, HO.out, HB.out⟩
end Go.Proofs.Yteigepblocbnlaa.Gp
