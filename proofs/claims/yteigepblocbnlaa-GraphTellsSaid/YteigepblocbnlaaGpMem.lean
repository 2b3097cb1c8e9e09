/-
  Numbers, and rows of numbers, in memory, as layer 10 (graph) wants them: rows of the call's own; what stays.
-/
import Derived.Test.YteigepblocbnlaaGpDepths
import Derived.Test.YteigepblocbnlaaShelf
import Derived.Below
import Derived.Deep.Onto
import Derived.Laws.AppendOwn
import Derived.Laws.OwnMore
import Derived.OwnWalkIn
import Derived.OneCell
import Derived.Deep.MidRow
import Derived.Deep.WholeRow
import Derived.Deep.AppendLies
import Derived.Lib.Hide
import Derived.RangeFuncBox
import Derived.WalkSpells
namespace Go.Proofs.Yteigepblocbnlaa.Gp
open Go Go.RowKit Go.Shelf Go.Proofs

theorem ret_b {a b : Bool} (h : a = b) : Ending.returned (.bool a) = .returned (.bool b) := by rw [h]
def vI (x : Nat) : Value := .int .i64 (x : Int)
def valsI (l : List Nat) : List Value := l.map vI
theorem valsI_length (l : List Nat) : (valsI l).length = l.length := by unfold valsI; simp
theorem valsI_append (a b : List Nat) : valsI (a ++ b) = valsI a ++ valsI b := by unfold valsI; simp
theorem valsI_get {l : List Nat} {i x : Nat} (h : l[i]? = some x) : (valsI l)[i]? = some (vI x) := by unfold valsI; rw [List.getElem?_map, h]; rfl
/-- Numbers in a row of the call's own. -/
def OI (base : Nat) (w : World) (v : Value) (l : List Nat) : Prop := w.ownsRow base 3 1 v l.length (valsI l)
theorem gp_int : (Try.prog.info? 3).map (fun i => (i.zero, i.size, i.bytes)) = some (some (.int .i64 0), 1, 8) := by kernel_rfl
theorem OI.nil (base : Nat) (w : World) : OI base w (.slice none 0 0) [] := World.ownsRow_nil _ _ _ _
/-- The slice value .slice A n c shows the numbers l. -/
def IntsAt (w : World) (A : Option Addr) (l : List Nat) : Prop := 0 < l.length → ∃ g o, A = some ⟨g, o, none⟩ ∧ ∀ i x, l[i]? = some x → w.cell? ⟨g, o + i, none⟩ = some (vI x)
theorem IntsAt.keep {w w' : World} {A : Option Addr} {l : List Nat} (h : IntsAt w A l) (hk : ∀ g o, A = some ⟨g, o, none⟩ → g < w.heap.size → w'.heap[g]? = w.heap[g]?) : IntsAt w' A l := fun hn => by
  obtain ⟨g, o, e, hc⟩ := h hn
  refine ⟨g, o, e, fun i x hx => ?_⟩
  have h1 := hc i x hx
  have hl : g < w.heap.size := World.block_lt_of_cell? w (a := ⟨g, o + i, none⟩) h1
  exact (World.cell?_of_block (a := ⟨g, o + i, none⟩) (hk g o e hl)).trans h1
theorem IntsAt.below {w w' : World} {A : Option Addr} {l : List Nat} (h : IntsAt w A l) (hb : Below w.heap.size w w') : IntsAt w' A l := h.keep fun g _ _ hg => hb.block g hg
theorem IntsAt.nil (w : World) (A : Option Addr) : IntsAt w A [] := fun h => absurd h (by simp)
def blkA (A : Option Addr) : Option Nat := A.map (·.block)
theorem own_blk (A : Option Addr) (n c : Nat) : (Value.slice A n c).ownBlock = blkA A := by cases A <;> rfl
theorem OI.form {base : Nat} {w : World} {v : Value} {l : List Nat} (h : OI base w v l) : ∃ A c, v = .slice A l.length c ∧ IntsAt w A l ∧ l.length ≤ c ∧ c ≤ maxLen ∧ (∀ g, blkA A = some g → base ≤ g ∧ ∃ cur, A = some ⟨g, 0, none⟩ ∧ w.heap[g]? = some (.cells cur 3 (0, 0))) := by
  have h0 := h
  rcases h.2 with ⟨rfl, hn⟩ | ⟨g, cap, cur, rfl, hb, hg, hnc, hcm, _⟩
  · obtain rfl := List.eq_nil_of_length_eq_zero hn
    exact ⟨none, 0, rfl, IntsAt.nil w _, Nat.le_refl _, Nat.zero_le _, fun g h => by cases h⟩
  · refine ⟨some ⟨g, 0, none⟩, cap, rfl, fun _ => ⟨g, 0, rfl, fun i x hx => ?_⟩, hnc, hcm, fun g' e => by cases e; exact ⟨hb, cur, rfl, hg⟩⟩
    have h1 := World.ownsRow.cells h0 (g := g) rfl i (vI x) (valsI_get hx)
    rw [Go.WideShapes.add_plain] at h1
    exact h1
theorem OI.slice {base : Nat} {w : World} {A : Option Addr} {n c : Nat} {l : List Nat} (h : OI base w (.slice A n c) l) : n = l.length ∧ IntsAt w A l ∧ l.length ≤ c ∧ c ≤ maxLen ∧ (∀ g, blkA A = some g → base ≤ g ∧ ∃ cur, A = some ⟨g, 0, none⟩ ∧ w.heap[g]? = some (.cells cur 3 (0, 0))) := by
  obtain ⟨A', c', e, h1, h2, h3, h4⟩ := h.form
  cases e
  exact ⟨rfl, h1, h2, h3, h4⟩
theorem ownsRow_keepA {w w' : World} {base e size n : Nat} {v : Value} {xs : List Value} (h : w.ownsRow base e size v n xs) (hk : ∀ j o, base ≤ j → v.ownBlock = some j → w.heap[j]? = some o → w'.heap[j]? = some o) : w'.ownsRow base e size v n xs := by
  refine ⟨h.1, ?_⟩
  rcases h.2 with hn | ⟨g, cap, cur, rfl, hb, hg, rest⟩
  · exact .inl hn
  · exact .inr ⟨g, cap, cur, rfl, hb, hk g _ hb rfl hg, rest⟩
theorem OI.keep {base : Nat} {w w' : World} {v : Value} {l : List Nat} (h : OI base w v l) (hk : ∀ j o, base ≤ j → v.ownBlock = some j → w.heap[j]? = some o → w'.heap[j]? = some o) : OI base w' v l := ownsRow_keepA h hk
theorem OI.below {base : Nat} {w w' : World} {v : Value} {l : List Nat} (h : OI base w v l) (hb : Below w.heap.size w w') : OI base w' v l :=
  h.keep fun j _ _ _ ho => (hb.block j (Array.getElem?_eq_some_iff.1 ho).1).trans ho
theorem OI.alloc {base : Nat} {w : World} {v : Value} {l : List Nat} (h : OI base w v l) (o : Obj) : OI base (w.alloc o) v l := World.ownsRow.alloc h o
theorem OI.mono {base base' : Nat} {w : World} {v : Value} {l : List Nat} (h : OI base w v l) (hb : base' ≤ base) : OI base' w v l := World.ownsRow.mono h hb
theorem one_cellG (w : World) (x : Value) (t : TypeId) : ∀ j u, [x][j]? = some u → (w.alloc (.cells #[x] t)).cell? ((⟨w.heap.size, 0, none⟩ : Addr).add j) = some u := by
  intro j u hu
  match j, hu with
  | 0, hu =>
    cases hu
    rw [Go.WideShapes.add_plain]
    exact cell_of_row _ _ 0 _ _ _ (World.alloc_heap_new w _)
  | j + 1, hu => simp at hu
/-- append(list, x), onto a row of the call's own; where the new one lies. -/
theorem wp_appI {w : World} {base : Nat} {l : List Nat} {A : Option Addr} {c x g : Nat} {o : Oper} {a : Act} {K : Act → World → Prop} {Q : Exit → Act → World → Prop} (s y : Operand)
    (ho : o.op = .call { callee := .builtin .append, args := #[s, y], argTypes := #[30, 30] }) (hs : a.eval s = .slice A l.length c) (hown : OI base w (.slice A l.length c) l)
    (hy : a.eval y = .slice (some ⟨g, 0, none⟩) 1 1) (hc : w.heap[g]? = some (.cells #[vI x] 3 (0, 0))) (hlen : l.length ≤ 1000000) (hbase : base ≤ w.heap.size) (H : Nat) (hH : w.heap.size = H)
    (h : ∀ g' c' w', OI base w' (.slice (some ⟨g', 0, none⟩) (l ++ [x]).length c') (l ++ [x]) → w.grownBy w' (blkA A) → (blkA A = some g' ∨ g' = H) → K (a.put o.dst (.slice (some ⟨g', 0, none⟩) (l ++ [x]).length c')) w') : Oper.wp Try.prog o a w K Q := by
  obtain ⟨i0, hi, hz0, hz1, hz2⟩ := info_parts gp_int
  refine wp_append_lies w s y 30 ho base 3 i0 (.int .i64 0) 1 8 Try.underlying30 hi hz0 hz1 hz2 rfl (by decide) (.slice A l.length c) l.length (valsI l) hs hown ⟨g, 0, none⟩ 1 1 [vI x] hy rfl
    (World.news_of_block hc) (by intro u hu; simp only [List.mem_singleton] at hu; subst hu; rfl) (by decide) (by unfold maxLen; omega) (by omega) hbase H hH fun g' c' w' h1 h2 h3 h4 => ?_
  have e : (l ++ [x]).length = l.length + 1 := by simp
  rw [own_blk] at h2 h3
  have := h g' c' w' (by unfold OI; rw [e, valsI_append]; exact h1) h2 h3
  rw [e] at this; exact this
theorem wpList_appI {w : World} {base : Nat} {l : List Nat} {A : Option Addr} {c x g : Nat} {ops : Array Oper} {rest : List Oper} {o : Oper} {a : Act} {Q : Exit → Act → World → Prop} (hgd : o.guard = none) (s y : Operand)
    (ho : o.op = .call { callee := .builtin .append, args := #[s, y], argTypes := #[30, 30] }) (hs : a.eval s = .slice A l.length c) (hown : OI base w (.slice A l.length c) l)
    (hy : a.eval y = .slice (some ⟨g, 0, none⟩) 1 1) (hc : w.heap[g]? = some (.cells #[vI x] 3 (0, 0))) (hlen : l.length ≤ 1000000) (hbase : base ≤ w.heap.size) (H : Nat) (hH : w.heap.size = H)
    (h : ∀ g' c' w', OI base w' (.slice (some ⟨g', 0, none⟩) (l ++ [x]).length c') (l ++ [x]) → w.grownBy w' (blkA A) → (blkA A = some g' ∨ g' = H) → wpList Try.prog ops Q rest (a.put o.dst (.slice (some ⟨g', 0, none⟩) (l ++ [x]).length c')) w') : wpList Try.prog ops Q (o :: rest) a w :=
  wpList_plain hgd fun _ hK => wp_appI s y ho hs hown hy hc hlen hbase H hH fun g' c' w' h1 h2 h3 => hK _ _ (h g' c' w' h1 h2 h3)
theorem step_appI {w : World} {base : Nat} {l : List Nat} {A : Option Addr} {c x g : Nat} {ops : Array Oper} {o : Oper} {a : Act} {K : Act → World → Prop} {Q : Exit → Act → World → Prop} {E : Prop} (hgd : o.guard = none) (s y : Operand)
    (ho : o.op = .call { callee := .builtin .append, args := #[s, y], argTypes := #[30, 30] }) (hs : a.eval s = .slice A l.length c) (hown : OI base w (.slice A l.length c) l)
    (hy : a.eval y = .slice (some ⟨g, 0, none⟩) 1 1) (hc : w.heap[g]? = some (.cells #[vI x] 3 (0, 0))) (hlen : l.length ≤ 1000000) (hbase : base ≤ w.heap.size) (H : Nat) (hH : w.heap.size = H)
    (h : ∀ g' c' w', OI base w' (.slice (some ⟨g', 0, none⟩) (l ++ [x]).length c') (l ++ [x]) → w.grownBy w' (blkA A) → (blkA A = some g' ∨ g' = H) → K (a.put o.dst (.slice (some ⟨g', 0, none⟩) (l ++ [x]).length c')) w') : if Region.wanted o (yielded ops a.tmps) = true then Oper.wp Try.prog o a w K Q else E := by
  rw [if_pos (by simp [Region.wanted, hgd])]
  exact wp_appI s y ho hs hown hy hc hlen hbase H hH h

/-! Rows of rows. -/
/-- A row of numbers in memory: where it lies, its room, the numbers. -/
structure RX where
  A : Option Addr
  c : Nat
  l : List Nat
instance : Inhabited RX := ⟨⟨none, 0, []⟩⟩
def RX.v (x : RX) : Value := .slice x.A x.l.length x.c
def cellsR (rows : List RX) : Array Value := (rows.map RX.v).toArray
def rowsL (rows : List RX) : List (List Nat) := rows.map RX.l
theorem rowsL_length (rows : List RX) : (rowsL rows).length = rows.length := by unfold rowsL; simp
theorem rowsL_row {rows : List RX} {i : Nat} {x : RX} (h : rows[i]? = some x) : row (rowsL rows) i = x.l := by
  unfold row rowsL; rw [List.getD_eq_getElem?_getD, List.getElem?_map, h]; rfl
theorem cellsR_get {rows : List RX} {i : Nat} {x : RX} (h : rows[i]? = some x) : (cellsR rows)[i]? = some x.v := by unfold cellsR; simp [h]
structure RowsM (base lim R : Nat) (rows : List RX) (W : World) : Prop where
  blk : W.heap[R]? = some (.cells (cellsR rows) 30 (0, 0))
  row : ∀ x ∈ rows, OI base W x.v x.l
  rlim : R < lim
  rlo : base ≤ R
  lim : ∀ x ∈ rows, ∀ g, blkA x.A = some g → g < lim
theorem RowsM.keep {base lim R : Nat} {rows : List RX} {W W' : World} (h : RowsM base lim R rows W)
    (hk : ∀ k o, k < lim → W.heap[k]? = some o → (∀ cs fr, o ≠ Obj.cells cs 4 fr) → W'.heap[k]? = some o) : RowsM base lim R rows W' :=
  ⟨hk R _ h.rlim h.blk (fun cs fr e => by cases e), fun x hx => (h.row x hx).keep fun j o _ hj ho => by
    have hx' := (show OI base W (.slice x.A x.l.length x.c) x.l from h.row x hx)
    have hb : blkA x.A = some j := by rw [← own_blk x.A x.l.length x.c]; exact hj
    obtain ⟨_, cur, _, hc⟩ := hx'.slice.2.2.2.2 j hb
    exact hk j o (h.lim x hx j hb) ho (fun cs fr e => by rw [hc] at ho; cases ho; cases e), h.rlim, h.rlo, h.lim⟩
/-- .. where what lies from base on stays. -/
theorem RowsM.keepB {base lim R : Nat} {rows : List RX} {W W' : World} (h : RowsM base lim R rows W)
    (hk : ∀ k o, base ≤ k → k < lim → W.heap[k]? = some o → W'.heap[k]? = some o) : RowsM base lim R rows W' :=
  ⟨hk R _ h.rlo h.rlim h.blk, fun x hx => (h.row x hx).keep fun j o hbj hj ho => hk j o hbj (h.lim x hx j (by rw [← own_blk x.A x.l.length x.c]; exact hj)) ho, h.rlim, h.rlo, h.lim⟩
theorem RowsM.below {base lim R : Nat} {rows : List RX} {W W' : World} (h : RowsM base lim R rows W) (hb : Below lim W W') : RowsM base lim R rows W' :=
  h.keep fun k _ hk ho _ => (hb.block k hk).trans ho
/-- No two rows lie in one block. -/
def ApartR (rows : List RX) : Prop := ∀ (i j : Nat) (x y : RX) (g : Nat), rows[i]? = some x → rows[j]? = some y → blkA x.A = some g → blkA y.A = some g → i = j
/-- One row more by one number. -/
theorem RowsM.push {base lim R : Nat} {rows : List RX} {W W3 : World} {i g c : Nat} {x : RX} {y : Nat} {o : Obj} (h : RowsM base lim R rows W) (ha : ApartR rows) (_hl : lim = W.heap.size) (hi : rows[i]? = some x)
    (hown : OI base W3 (.slice (some ⟨g, 0, none⟩) (x.l ++ [y]).length c) (x.l ++ [y])) (hg : (W.alloc o).grownBy W3 (blkA x.A)) (hlies : blkA x.A = some g ∨ g = W.heap.size + 1) (hR : base ≤ R) :
    RowsM base (W3.setCell ⟨R, i, none⟩ (.slice (some ⟨g, 0, none⟩) (x.l ++ [y]).length c)).heap.size R (rows.set i ⟨some ⟨g, 0, none⟩, c, x.l ++ [y]⟩) (W3.setCell ⟨R, i, none⟩ (.slice (some ⟨g, 0, none⟩) (x.l ++ [y]).length c)) ∧
    ApartR (rows.set i ⟨some ⟨g, 0, none⟩, c, x.l ++ [y]⟩) ∧ ∀ n, n ≤ base → n ≤ W.heap.size → Below n W (W3.setCell ⟨R, i, none⟩ (.slice (some ⟨g, 0, none⟩) (x.l ++ [y]).length c)) := by
  obtain ⟨z, hz⟩ : ∃ z : RX, z = ⟨some ⟨g, 0, none⟩, c, x.l ++ [y]⟩ := ⟨_, rfl⟩
  obtain ⟨V, hV⟩ : ∃ V : Value, V = .slice (some ⟨g, 0, none⟩) (x.l ++ [y]).length c := ⟨_, rfl⟩
  have hzv : z.v = V := by rw [hz, hV]; rfl
  rw [← hz, ← hV]
  have hil : i < rows.length := (List.getElem?_eq_some_iff.1 hi).1
  have hxm : x ∈ rows := List.mem_of_getElem? hi
  have hx' := (show OI base W (.slice x.A x.l.length x.c) x.l from h.row x hxm)
  have hxb : ∀ j, blkA x.A = some j → base ≤ j ∧ ∃ cur, W.heap[j]? = some (.cells cur 3 (0, 0)) := fun j hj => by
    obtain ⟨h1, cur, _, h2⟩ := hx'.slice.2.2.2.2 j hj; exact ⟨h1, cur, h2⟩
  have hlt : ∀ (j : Nat) (o' : Obj), W.heap[j]? = some o' → j < W.heap.size := fun j o' hj => (Array.getElem?_eq_some_iff.1 hj).1
  have keep3 : ∀ (j : Nat) (o' : Obj), W.heap[j]? = some o' → blkA x.A ≠ some j → W3.heap[j]? = some o' := fun j o' hj hn =>
    (hg.block j (by rw [World.size_alloc]; have := hlt j o' hj; omega) (fun e => hn e.symm)).trans ((Below.heap_alloc _ _ _ (hlt j o' hj)).trans hj)
  have hRx : blkA x.A ≠ some R := fun e => by
    obtain ⟨_, cur, hc⟩ := hxb R e
    rw [h.blk] at hc; cases hc
  have r3 := keep3 R _ h.blk hRx
  have r4 := heap_setCell_same W3 R i _ _ V r3
  have other4 : ∀ j, j ≠ R → (W3.setCell ⟨R, i, none⟩ V).heap[j]? = W3.heap[j]? := fun j hj => heap_setCell_other W3 ⟨R, i, none⟩ j _ hj
  have hs3 : W.heap.size + 1 ≤ W3.heap.size := by have := hg.size; rw [World.size_alloc] at this; exact this
  have hs4 : (W3.setCell ⟨R, i, none⟩ V).heap.size = W3.heap.size := by simp [World.setCell]
  have hcells : ((cellsR rows).setIfInBounds i V) = cellsR (rows.set i z) := by
    unfold cellsR; rw [List.setIfInBounds_toArray, List.map_set, hzv]
  have hgc := (show OI base W3 (.slice (some ⟨g, 0, none⟩) (x.l ++ [y]).length c) (x.l ++ [y]) from hown).slice.2.2.2.2 g rfl
  obtain ⟨hgb, gcur, _, hgh⟩ := hgc
  have hgR : g ≠ R := fun e => by rw [e, r3] at hgh; cases hgh
  have hgl : g < W3.heap.size := (Array.getElem?_eq_some_iff.1 hgh).1
  have old : ∀ j x', rows[j]? = some x' → j ≠ i → ∀ k, blkA x'.A = some k → blkA x.A ≠ some k ∧ k ≠ g ∧ k < W.heap.size ∧ k ≠ R := fun j x' hj hji k hk => by
    have n1 : blkA x.A ≠ some k := fun e => hji (ha j i x' x k hj hi hk e)
    have hk' := (show OI base W (.slice x'.A x'.l.length x'.c) x'.l from h.row x' (List.mem_of_getElem? hj)).slice.2.2.2.2 k hk
    obtain ⟨_, cur, _, hkc⟩ := hk'
    refine ⟨n1, fun e => ?_, hlt k _ hkc, fun e => by rw [e, h.blk] at hkc; cases hkc⟩
    rcases hlies with hl2 | hl2
    · exact n1 (by rw [e]; exact hl2)
    · have := hlt k _ hkc; omega
  have getSet : ∀ j x', (rows.set i z)[j]? = some x' → (j = i ∧ x' = z) ∨ (j ≠ i ∧ rows[j]? = some x') := fun j x' hj => by
    by_cases e : j = i
    · subst e; rw [List.getElem?_set_self hil] at hj; cases hj; exact .inl ⟨rfl, rfl⟩
    · rw [List.getElem?_set_ne (fun h => e h.symm)] at hj; exact .inr ⟨e, hj⟩
  refine ⟨⟨?_, ?_, ?_, hR, ?_⟩, ?_, ?_⟩
  · rw [r4, hcells]
  · intro x' hx'
    obtain ⟨j, hj⟩ := List.mem_iff_getElem?.1 hx'
    rcases getSet j x' hj with ⟨_, rfl⟩ | ⟨hji, hj'⟩
    · rw [hzv, show x'.l = x.l ++ [y] from by rw [hz], hV]; exact hown.keep fun k o' _ hk ho => by
        have e : g = k := by simpa [Value.ownBlock] using hk
        subst e
        rw [← hV]; exact (other4 g hgR).trans ho
    · refine (h.row x' (List.mem_of_getElem? hj')).keep fun k o' _ hk ho => ?_
      obtain ⟨n1, _, _, n4⟩ := old j x' hj' hji k (by rw [← own_blk x'.A x'.l.length x'.c]; exact hk)
      exact (other4 k n4).trans (keep3 k o' ho n1)
  · rw [hs4]; have := hlt R _ h.blk; omega
  · intro x' hx' k hk
    obtain ⟨j, hj⟩ := List.mem_iff_getElem?.1 hx'
    rw [hs4]
    rcases getSet j x' hj with ⟨_, rfl⟩ | ⟨hji, hj'⟩
    · rw [hz] at hk; have e : g = k := by simpa [blkA] using hk
      omega
    · have := (old j x' hj' hji k hk).2.2.1; omega
  · intro j1 j2 x1 x2 k h1 h2 k1 k2
    rcases getSet j1 x1 h1 with ⟨e1, rfl⟩ | ⟨n1, h1'⟩
    · rcases getSet j2 x2 h2 with ⟨e2, rfl⟩ | ⟨n2, h2'⟩
      · rw [e1, e2]
      · rw [hz] at k1
        have e : g = k := by simpa [blkA] using k1
        exact absurd e.symm (old j2 x2 h2' n2 _ k2).2.1
    · rcases getSet j2 x2 h2 with ⟨e2, rfl⟩ | ⟨n2, h2'⟩
      · rw [hz] at k2
        have e : g = k := by simpa [blkA] using k2
        exact absurd e.symm (old j1 x1 h1' n1 _ k1).2.1
      · exact ha j1 j2 x1 x2 k h1' h2' k1 k2
  · intro n hn hnW
    refine ⟨hg.os, hg.tape, hg.output, by rw [hs4]; omega, fun k hk => ?_⟩
    rw [other4 k (by omega), hg.block k (by rw [World.size_alloc]; omega) (fun e => by have := (hxb k e.symm).1; omega)]
    exact Below.heap_alloc _ _ _ (by omega)
end Go.Proofs.Yteigepblocbnlaa.Gp
