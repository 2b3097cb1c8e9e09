/-
  The row of targets that the document's line grows: owned; only its last target's texts grow. (gen_bdrefrow.py) · The contract of the document's own Place. · The document's own: what a line tells of targets. · The document's own words of a line. (Of XOwRefW.) · The document's own: what a BUILD file tells. (gen_bdrefparse.py)
-/
import Derived.Test.YtckpojkbcbogbaaDoorBdRdr
import Derived.Test.YtckpojkbcbogbaaDoorBdApp
import Derived.Test.YtckpojkbcbogbaaDoorBdPlace
import Derived.Test.YtckpojkbcbogbaaDoorBdLabel
import Derived.Test.YtckpojkbcbogbaaDoorBdTarget
import Derived.Test.YtckpojkbcbogbaaDoorRefSmall
import Derived.Test.YtckpojkbcbogbaaDoorBdActz
import Derived.BigQuiet
import Derived.IntWalk
import Derived.Test.YtckpojkbcbogbaaDoorBdWordsOf
import Derived.Test.YtckpojkbcbogbaaDoorRefGlob
import Derived.Test.YtckpojkbcbogbaaDoorBdParse
import Derived.Deep.RegionHeld3
namespace Go.Proofs.YtckpojkbcbogbaaDoor
open Go Go.RowKit Go.Shelf Go.Proofs

structure RowT (base : Nat) (w : World) (A : Option Addr) (c : Nat) (L : List TX) : Prop where
  row : w.ownsRow base 37 3 (.slice A L.length c) L.length (gcells L)
  own : ∀ x ∈ L, TgT base w x
  last : ∀ M x, L = M ++ [x] → TgL base w x ∧ ∀ y ∈ M, apartT y x
theorem RowT.nil (base : Nat) (w : World) : RowT base w none 0 [] := ⟨World.ownsRow_nil _ _ _ _, (fun x hx => by cases hx), (fun M x e => by simp at e)⟩
theorem RowT.kept {base : Nat} {w w' : World} {A : Option Addr} {c : Nat} {L : List TX} (h : RowT base w A c L) (hs : w.heap.size ≤ w'.heap.size) (hk : ∀ j o, base ≤ j → w.heap[j]? = some o → w'.heap[j]? = some o) : RowT base w' A c L := by
  refine ⟨ownsRow_keepA h.row fun j o hb _ ho => hk j o hb ho, fun x hx => (h.own x hx).keep hs fun j o hb _ ho => hk j _ hb ho, fun M x e => ?_⟩
  obtain ⟨hl, ha⟩ := h.last M x e
  exact ⟨⟨ownsRow_keepA hl.s fun j o hb _ ho => hk j o hb ho, ownsRow_keepA hl.d fun j o hb _ ho => hk j o hb ho, hl.ne⟩, ha⟩
theorem RowT.below {base : Nat} {w w' : World} {A : Option Addr} {c : Nat} {L : List TX} (h : RowT base w A c L) (hb : Below w.heap.size w w') : RowT base w' A c L := h.kept hb.size fun j _ _ ho => (hb.block j (Array.getElem?_eq_some_iff.1 ho).1).trans ho
theorem RowT.at_ {base : Nat} {w : World} {A : Option Addr} {c : Nat} {L : List TX} (h : RowT base w A c L) : TgsAt w A c L := by
  rcases h.row.2 with ⟨h', h0⟩ | ⟨g, cap, cur, h', hbg, hgb, hc, hcm, _, _⟩
  · obtain rfl : L = [] := List.eq_nil_of_length_eq_zero h0
    simp only [Value.slice.injEq] at h'
    exact TgsAt.nil _ _ _ (by unfold maxLen; omega)
  · simp only [Value.slice.injEq, true_and] at h'
    obtain ⟨rfl, rfl⟩ := h'
    have h2 := h.row
    refine ⟨hc, hcm, fun _ => ⟨g, 0, rfl, fun i x hx => ?_⟩, fun x hx => (h.own x hx).ok⟩
    obtain ⟨a1, a2, a3⟩ := gcells_at L i x hx
    have b1 := World.ownsRow.cells h2 (g := g) rfl _ _ a1
    have b2 := World.ownsRow.cells h2 (g := g) rfl _ _ a2
    have b3 := World.ownsRow.cells h2 (g := g) rfl _ _ a3
    rw [Go.WideShapes.add_plain, Nat.zero_add] at b1 b2 b3
    rw [Nat.zero_add]
    exact ⟨b1, b2, b3⟩
/-- The same targets in a row of its own. -/
theorem RowT.copied {base : Nat} {w w' : World} {A A' : Option Addr} {c c' : Nat} {L : List TX} (h : RowT base w A c L) (hs : w.heap.size ≤ w'.heap.size) (hk : ∀ j cur, base ≤ j → w.heap[j]? = some (.cells cur 9 (0, 0)) → w'.heap[j]? = some (.cells cur 9 (0, 0))) (hr : w'.ownsRow base 37 3 (.slice A' L.length c') L.length (gcells L)) : RowT base w' A' c' L := by
  refine ⟨hr, fun x hx => (h.own x hx).keep hs fun j o hb _ ho => hk j _ hb ho, fun M x e => ?_⟩
  obtain ⟨hl, ha⟩ := h.last M x e
  have t : ∀ {B : Option Addr} {n b : Nat} {xs : List Value}, w.ownsRow base 9 1 (.slice B n b) n xs → w'.ownsRow base 9 1 (.slice B n b) n xs := fun {B n b xs} h1 => ⟨h1.1, h1.2.imp id fun ⟨g, cap, cur, hv, hb, hg, r⟩ => ⟨g, cap, cur, hv, hb, hk g _ hb hg, r⟩⟩
  exact ⟨⟨t hl.s, t hl.d, hl.ne⟩, ha⟩
theorem RowT.more {base : Nat} {w w' : World} {A A' : Option Addr} {c c' : Nat} {L : List TX} {n : ByteArray} (h : RowT base w A c L) (hs : w.heap.size ≤ w'.heap.size) (hk : ∀ j cur, base ≤ j → w.heap[j]? = some (.cells cur 9 (0, 0)) → w'.heap[j]? = some (.cells cur 9 (0, 0))) (hr : w'.ownsRow base 37 3 (.slice A' (L.length + 1) c') (L.length + 1) (gcells (L ++ [newX n]))) : RowT base w' A' c' (L ++ [newX n]) := by
  have hnew : TgL base w' (newX n) := ⟨World.ownsRow_nil _ _ _ _, World.ownsRow_nil _ _ _ _, fun g h => by cases h⟩
  refine ⟨by rw [List.length_append]; exact hr, fun x hx => ?_, fun M x e => ?_⟩
  · rcases List.mem_append.1 hx with hx | hx
    · exact (h.own x hx).keep hs fun j o hb _ ho => hk j _ hb ho
    · simp only [List.mem_singleton] at hx; subst hx
      exact hnew.ro
  · obtain ⟨rfl, e2⟩ := List.append_inj' e rfl
    simp only [List.cons.injEq, and_true] at e2
    subst e2
    refine ⟨hnew, fun y _ j hj => ?_⟩
    rcases hj with hj | hj <;> cases hj

theorem RowT.laySrc {base : Nat} {M : List TX} {x : TX} {W W3 : World} {g c c' : Nat} {A' : Option Addr} {p : Bs} {o : Obj} (h : RowT base W (some ⟨g, 0, none⟩) c (M ++ [x])) (hbw : base ≤ W.heap.size)
    (hg : (W.alloc o).grownBy W3 (blkA x.A)) (hv : W3.ownsRow base 9 1 (.slice A' (x.s.length + 1) c') (x.s.length + 1) (strVs (x.s ++ [p])))
    (hl : blkA x.A = blkA A' ∨ blkA A' = some (W.heap.size + 1)) :
    RowT base (W3.setCell ⟨g, M.length * 3 + 1, none⟩ (.slice A' (x.s.length + 1) c')) (some ⟨g, 0, none⟩) c (M ++ [{ x with A := A', c := c', s := x.s ++ [p] }]) ∧ Below base W (W3.setCell ⟨g, M.length * 3 + 1, none⟩ (.slice A' (x.s.length + 1) c')) ∧ ∀ j o', W.heap[j]? = some o' → blkA x.A ≠ some j → j ≠ g → (W3.setCell ⟨g, M.length * 3 + 1, none⟩ (.slice A' (x.s.length + 1) c')).heap[j]? = some o' := by
  obtain ⟨hL, hap⟩ := h.last M x rfl
  have h2 : W.ownsRow base 37 3 (.slice (some ⟨g, 0, none⟩) (M.length + 1) c) (M.length + 1) (gcells (M ++ [x])) := by
    have := h.row
    rwa [show (M ++ [x]).length = M.length + 1 from by simp] at this
  obtain ⟨hgb, cur, hgc⟩ := row_ge h2 (g := g) rfl
  obtain ⟨W4, hW4⟩ : ∃ W4, W3.setCell ⟨g, M.length * 3 + 1, none⟩ (.slice A' (x.s.length + 1) c') = W4 := ⟨_, rfl⟩
  obtain ⟨y, hy⟩ : ∃ y : TX, ({ x with A := A', c := c', s := x.s ++ [p] } : TX) = y := ⟨_, rfl⟩
  have hlt : ∀ (j : Nat) (o' : Obj), W.heap[j]? = some o' → j < W.heap.size := fun j o' hj => (Array.getElem?_eq_some_iff.1 hj).1
  have hxg : blkA x.A ≠ some g := no_textB hL.s hgc
  have keep3 : ∀ (j : Nat) (o' : Obj), W.heap[j]? = some o' → blkA x.A ≠ some j → W3.heap[j]? = some o' := fun j o' hj hn =>
    (hg.block j (by rw [World.size_alloc]; have := hlt j o' hj; omega) (fun e => hn e.symm)).trans ((Below.heap_alloc _ _ _ (hlt j o' hj)).trans hj)
  have other4 : ∀ j, j ≠ g → W4.heap[j]? = W3.heap[j]? := fun j hj => by rw [← hW4]; exact heap_setCell_other W3 ⟨g, M.length * 3 + 1, none⟩ j _ hj
  have keep4 : ∀ (j : Nat) (o' : Obj), W.heap[j]? = some o' → blkA x.A ≠ some j → j ≠ g → W4.heap[j]? = some o' := fun j o' hj hn hng => (other4 j hng).trans (keep3 j o' hj hn)
  have hbx : ∀ j, blkA x.A = some j → base ≤ j ∧ ∃ cur, W.heap[j]? = some (.cells cur 9 (0, 0)) := fun j hj => row_ge hL.s ((own_blk _ _ _).trans hj)
  have hsz3 : W.heap.size ≤ W3.heap.size := by have := hg.size; rw [World.size_alloc] at this; omega
  have hsz4 : W.heap.size ≤ W4.heap.size := by rw [← hW4]; simpa [World.setCell] using hsz3
  have r3 : W3.ownsRow base 37 3 (.slice (some ⟨g, 0, none⟩) (M.length + 1) c) (M.length + 1) (gcells (M ++ [x])) := ownsRow_keepA h2 fun j o' _ hj ho => keep3 j o' ho (fun e => by
    simp only [Value.ownBlock, Option.some.injEq] at hj
    subst hj
    exact hxg e)
  have r4 : W4.ownsRow base 37 3 (.slice (some ⟨g, 0, none⟩) (M.length + 1) c) (M.length + 1) (gcells (M ++ [y])) := by
    have := (r3.stored (M.length * 3 + 1) (.slice A' (x.s.length + 1) c')).1
    rwa [gcells_set M x y 1 _ (by rw [← hy]; simp [TX.cs]), hW4] at this
  have hln : (M ++ [y]).length = M.length + 1 := by simp
  have hgA' : blkA A' ≠ some g := fun e => by
    rcases hl with hl | hl
    · exact hxg (hl.trans e)
    · have e2 := hl.symm.trans e
      simp only [Option.some.injEq] at e2
      have := hlt g _ hgc
      omega
  have hlen : (x.s ++ [p]).length = x.s.length + 1 := by simp
  have v4 : W4.ownsRow base 9 1 (.slice A' (x.s ++ [p]).length c') (x.s ++ [p]).length (strVs (x.s ++ [p])) := by
    rw [hlen]
    exact ownsRow_keepA hv fun j o' _ hj ho => (other4 j (fun e => by rw [own_blk] at hj; exact hgA' (by rw [hj, e]))).trans ho
  have hne : ∀ j, blkA x.B = some j → blkA x.A ≠ some j := fun j hj e => hL.ne j e hj
  have hgB : blkA x.B ≠ some g := no_textB hL.d hgc
  have d4 : W4.ownsRow base 9 1 (.slice x.B x.d.length x.b) x.d.length (strVs x.d) := ownsRow_keepA hL.d fun j o' _ hj ho => by
    rw [own_blk] at hj
    exact keep4 j o' ho (hne j hj) (fun e => hgB (by rw [hj, e]))
  have hBs : ∀ j, blkA x.B = some j → j < W.heap.size := fun j hj => by
    obtain ⟨_, cur', hc'⟩ := row_ge hL.d ((own_blk _ _ _).trans hj)
    exact hlt j _ hc'
  have hne4 : ∀ j, blkA A' = some j → blkA x.B ≠ some j := fun j hj hB => by
    rcases hl with hl | hl
    · exact hne j hB (hl.trans hj)
    · have e2 := hl.symm.trans hj
      simp only [Option.some.injEq] at e2
      have := hBs j hB
      omega
  have hL4 : TgL base W4 y := by rw [← hy]; exact ⟨v4, d4, hne4⟩
  have htg : ∀ z ∈ M, TgT base W4 z := fun z hz => (h.own z (by simp [hz])).keep hsz4 fun j cur' _ hj ho => keep4 j _ ho (fun e => by
    have := hap z hz j (.inl e)
    rcases hj with hj | hj
    · exact this.1 hj
    · exact this.2 hj) (fun e => by
    subst e
    rw [hgc] at ho; cases ho)
  rw [hW4, hy]
  refine ⟨⟨by rw [hln]; exact r4, fun z hz => ?_, fun M' z e => ?_⟩, ?_, keep4⟩
  · rcases List.mem_append.1 hz with hz | hz
    · exact htg z hz
    · simp only [List.mem_singleton] at hz; subst hz
      exact hL4.ro
  · obtain ⟨rfl, e2⟩ := List.append_inj' e rfl
    simp only [List.cons.injEq, and_true] at e2
    subst e2
    refine ⟨hL4, fun z hz j hj => ?_⟩
    have hzl := (h.own z (by simp [hz])).lt j
    rw [← hy] at hj
    rcases hj with hj | hj
    · (rcases hl with hl | hl
       · exact hap z hz j (.inl (hl.trans hj))
       · have e2 := hl.symm.trans hj
         simp only [Option.some.injEq] at e2
         exact ⟨fun e => by have := hzl (.inl e); omega, fun e => by have := hzl (.inr e); omega⟩)
    · exact hap z hz j (.inr hj)
  · refine ⟨by rw [← hW4]; exact hg.os, by rw [← hW4]; exact hg.tape, by rw [← hW4]; exact hg.output, hsz4, fun j hj => ?_⟩
    exact (other4 j (by omega)).trans ((hg.block j (by rw [World.size_alloc]; omega) (fun e => by have := (hbx j e.symm).1; omega)).trans (Below.heap_alloc _ _ _ (by omega)))

theorem RowT.layDep {base : Nat} {M : List TX} {x : TX} {W W3 : World} {g c c' : Nat} {A' : Option Addr} {p : Bs} {o : Obj} (h : RowT base W (some ⟨g, 0, none⟩) c (M ++ [x])) (hbw : base ≤ W.heap.size)
    (hg : (W.alloc o).grownBy W3 (blkA x.B)) (hv : W3.ownsRow base 9 1 (.slice A' (x.d.length + 1) c') (x.d.length + 1) (strVs (x.d ++ [p])))
    (hl : blkA x.B = blkA A' ∨ blkA A' = some (W.heap.size + 1)) :
    RowT base (W3.setCell ⟨g, M.length * 3 + 2, none⟩ (.slice A' (x.d.length + 1) c')) (some ⟨g, 0, none⟩) c (M ++ [{ x with B := A', b := c', d := x.d ++ [p] }]) ∧ Below base W (W3.setCell ⟨g, M.length * 3 + 2, none⟩ (.slice A' (x.d.length + 1) c')) ∧ ∀ j o', W.heap[j]? = some o' → blkA x.B ≠ some j → j ≠ g → (W3.setCell ⟨g, M.length * 3 + 2, none⟩ (.slice A' (x.d.length + 1) c')).heap[j]? = some o' := by
  obtain ⟨hL, hap⟩ := h.last M x rfl
  have h2 : W.ownsRow base 37 3 (.slice (some ⟨g, 0, none⟩) (M.length + 1) c) (M.length + 1) (gcells (M ++ [x])) := by
    have := h.row
    rwa [show (M ++ [x]).length = M.length + 1 from by simp] at this
  obtain ⟨hgb, cur, hgc⟩ := row_ge h2 (g := g) rfl
  obtain ⟨W4, hW4⟩ : ∃ W4, W3.setCell ⟨g, M.length * 3 + 2, none⟩ (.slice A' (x.d.length + 1) c') = W4 := ⟨_, rfl⟩
  obtain ⟨y, hy⟩ : ∃ y : TX, ({ x with B := A', b := c', d := x.d ++ [p] } : TX) = y := ⟨_, rfl⟩
  have hlt : ∀ (j : Nat) (o' : Obj), W.heap[j]? = some o' → j < W.heap.size := fun j o' hj => (Array.getElem?_eq_some_iff.1 hj).1
  have hxg : blkA x.B ≠ some g := no_textB hL.d hgc
  have keep3 : ∀ (j : Nat) (o' : Obj), W.heap[j]? = some o' → blkA x.B ≠ some j → W3.heap[j]? = some o' := fun j o' hj hn =>
    (hg.block j (by rw [World.size_alloc]; have := hlt j o' hj; omega) (fun e => hn e.symm)).trans ((Below.heap_alloc _ _ _ (hlt j o' hj)).trans hj)
  have other4 : ∀ j, j ≠ g → W4.heap[j]? = W3.heap[j]? := fun j hj => by rw [← hW4]; exact heap_setCell_other W3 ⟨g, M.length * 3 + 2, none⟩ j _ hj
  have keep4 : ∀ (j : Nat) (o' : Obj), W.heap[j]? = some o' → blkA x.B ≠ some j → j ≠ g → W4.heap[j]? = some o' := fun j o' hj hn hng => (other4 j hng).trans (keep3 j o' hj hn)
  have hbx : ∀ j, blkA x.B = some j → base ≤ j ∧ ∃ cur, W.heap[j]? = some (.cells cur 9 (0, 0)) := fun j hj => row_ge hL.d ((own_blk _ _ _).trans hj)
  have hsz3 : W.heap.size ≤ W3.heap.size := by have := hg.size; rw [World.size_alloc] at this; omega
  have hsz4 : W.heap.size ≤ W4.heap.size := by rw [← hW4]; simpa [World.setCell] using hsz3
  have r3 : W3.ownsRow base 37 3 (.slice (some ⟨g, 0, none⟩) (M.length + 1) c) (M.length + 1) (gcells (M ++ [x])) := ownsRow_keepA h2 fun j o' _ hj ho => keep3 j o' ho (fun e => by
    simp only [Value.ownBlock, Option.some.injEq] at hj
    subst hj
    exact hxg e)
  have r4 : W4.ownsRow base 37 3 (.slice (some ⟨g, 0, none⟩) (M.length + 1) c) (M.length + 1) (gcells (M ++ [y])) := by
    have := (r3.stored (M.length * 3 + 2) (.slice A' (x.d.length + 1) c')).1
    rwa [gcells_set M x y 2 _ (by rw [← hy]; simp [TX.cs]), hW4] at this
  have hln : (M ++ [y]).length = M.length + 1 := by simp
  have hgA' : blkA A' ≠ some g := fun e => by
    rcases hl with hl | hl
    · exact hxg (hl.trans e)
    · have e2 := hl.symm.trans e
      simp only [Option.some.injEq] at e2
      have := hlt g _ hgc
      omega
  have hlen : (x.d ++ [p]).length = x.d.length + 1 := by simp
  have v4 : W4.ownsRow base 9 1 (.slice A' (x.d ++ [p]).length c') (x.d ++ [p]).length (strVs (x.d ++ [p])) := by
    rw [hlen]
    exact ownsRow_keepA hv fun j o' _ hj ho => (other4 j (fun e => by rw [own_blk] at hj; exact hgA' (by rw [hj, e]))).trans ho
  have hne : ∀ j, blkA x.A = some j → blkA x.B ≠ some j := fun j hj e => hL.ne j hj e
  have hgB : blkA x.A ≠ some g := no_textB hL.s hgc
  have d4 : W4.ownsRow base 9 1 (.slice x.A x.s.length x.c) x.s.length (strVs x.s) := ownsRow_keepA hL.s fun j o' _ hj ho => by
    rw [own_blk] at hj
    exact keep4 j o' ho (hne j hj) (fun e => hgB (by rw [hj, e]))
  have hBs : ∀ j, blkA x.A = some j → j < W.heap.size := fun j hj => by
    obtain ⟨_, cur', hc'⟩ := row_ge hL.s ((own_blk _ _ _).trans hj)
    exact hlt j _ hc'
  have hne4 : ∀ j, blkA A' = some j → blkA x.A ≠ some j := fun j hj hB => by
    rcases hl with hl | hl
    · exact hne j hB (hl.trans hj)
    · have e2 := hl.symm.trans hj
      simp only [Option.some.injEq] at e2
      have := hBs j hB
      omega
  have hL4 : TgL base W4 y := by rw [← hy]; exact ⟨d4, v4, fun j hj hB => hne4 j hB hj⟩
  have htg : ∀ z ∈ M, TgT base W4 z := fun z hz => (h.own z (by simp [hz])).keep hsz4 fun j cur' _ hj ho => keep4 j _ ho (fun e => by
    have := hap z hz j (.inr e)
    rcases hj with hj | hj
    · exact this.1 hj
    · exact this.2 hj) (fun e => by
    subst e
    rw [hgc] at ho; cases ho)
  rw [hW4, hy]
  refine ⟨⟨by rw [hln]; exact r4, fun z hz => ?_, fun M' z e => ?_⟩, ?_, keep4⟩
  · rcases List.mem_append.1 hz with hz | hz
    · exact htg z hz
    · simp only [List.mem_singleton] at hz; subst hz
      exact hL4.ro
  · obtain ⟨rfl, e2⟩ := List.append_inj' e rfl
    simp only [List.cons.injEq, and_true] at e2
    subst e2
    refine ⟨hL4, fun z hz j hj => ?_⟩
    have hzl := (h.own z (by simp [hz])).lt j
    rw [← hy] at hj
    rcases hj with hj | hj
    · exact hap z hz j (.inl hj)
    · (rcases hl with hl | hl
       · exact hap z hz j (.inr (hl.trans hj))
       · have e2 := hl.symm.trans hj
         simp only [Option.some.injEq] at e2
         exact ⟨fun e => by have := hzl (.inl e); omega, fun e => by have := hzl (.inr e); omega⟩)
  · refine ⟨by rw [← hW4]; exact hg.os, by rw [← hW4]; exact hg.tape, by rw [← hW4]; exact hg.output, hsz4, fun j hj => ?_⟩
    exact (other4 j (by omega)).trans ((hg.block j (by rw [World.size_alloc]; omega) (fun e => by have := (hbx j e.symm).1; omega)).trans (Below.heap_alloc _ _ _ (by omega)))
end Go.Proofs.YtckpojkbcbogbaaDoor
namespace Go.Proofs.YtckpojkbcbogbaaDoor
open Go Go.RowKit Go.Shelf Go.Proofs
attribute [local go_sem] Oper.semAt_some

set_option maxRecDepth 100000 in
set_option maxHeartbeats 2000000 in
theorem brefplace_any (l : List TX) (A : Option Addr) (c : Nat) (s : ByteArray) (w : World) (h : TgsAt w A c l) :
    Calls Tryd.prog 32 #[.slice A l.length c, .string s] w fun e w' => e = .returned (.int .i64 (placeT (tgsX l) s.data.toList)) ∧ Below w.heap.size w w' := by
  rw [← idxG_place]
  obtain ⟨p, hp⟩ : ∃ p : TX → Bool, (fun x : TX => x.n.toList == s.toList) = p := ⟨_, rfl⟩
  have hpx : ∀ x : TX, (x.n.toList == s.toList) = p x := fun x => by rw [← hp]
  rw [hp]
  have hl : l.length ≤ maxLen := Nat.le_trans h.cap h.capm
  unfold maxLen at hl
  have HT := Lib.hid h; clear h
  have HP := Lib.hid hpx; clear hpx hp
  go_enter Tryd.func32, Tryd.ntmps32
  go_wp2_with fail
  go_loopw [5] (fun v5 wr => ∃ k : Nat, k ≤ l.length ∧ v5 = .int .i64 k ∧ Hid (Below w.heap.size w wr) ∧ Hid (∀ j y, j < k → l[j]? = some y → p y = false)) (fun v5 _ => l.length - (intOf v5).toNat)
  case atStart => exact ⟨0, Nat.zero_le _, rfl, Below.refl _ w, fun j y hj => absurd hj (Nat.not_lt_zero _)⟩
  case round =>
    obtain ⟨k, hk, rfl, HB, HN⟩ := hrel
    by_cases hlt : k < l.length
    · obtain ⟨x, hx⟩ : ∃ x, l[k]? = some x := ⟨_, List.getElem?_eq_getElem hlt⟩
      obtain ⟨b, o, hA, hrow⟩ := HT.out.row (by omega)
      subst hA
      obtain ⟨c1, _, _⟩ := (hrow.below HB.out) k x hx
      have HX := Lib.hid hx; clear hx
      have HROW := Lib.hid hrow; clear hrow
      have k1 : (k : Int) < (l.length : Int) := by omega
      cases hq : p x with
      | true =>
        have hq2 : (x.n.toList == s.toList) = true := (HP.out x).trans hq
        have HQ := Lib.hid hq; clear hq
        go_wp2_with fail
        go_ret
        exact ⟨by rw [idxG_hit HX.out HQ.out HN.out]; rfl, HB.out⟩
      | false =>
        have hq2 : (x.n.toList == s.toList) = false := (HP.out x).trans hq
        have HQ := Lib.hid hq; clear hq
        go_wp2_with fail
        go_roundw
        case rel =>
          refine ⟨k + 1, by omega, by go_num, HB.out, fun j y hj hy => ?_⟩
          by_cases e : j = k
          · subst e
            have := HX.out.symm.trans hy
            cases this
            exact HQ.out
          · exact HN.out j y (by omega) hy
        case measure => simp [intOf]; omega
    · obtain rfl : k = l.length := by omega
      go_wp2_with fail
      go_ret
      have hm : idxG p l = -1 := idxG_miss fun y hy => by
        obtain ⟨j, hj⟩ := List.mem_iff_getElem?.1 hy
        have := (List.getElem?_eq_some_iff.1 hj).1
        exact HN.out j y (by omega) hj
      exact ⟨by rw [hm]; rfl, HB.out⟩
end Go.Proofs.YtckpojkbcbogbaaDoor
namespace Go.Proofs.YtckpojkbcbogbaaDoor
open Go Go.RowKit Go.Shelf Go.Proofs
attribute [local go_sem] Oper.semAt_some

/-- What is none of L's rows stays. -/
def KeepL (L : List TX) (w w' : World) : Prop := ∀ (j : Nat) (o : Obj), w.heap[j]? = some o → (∀ x ∈ L, blkA x.A ≠ some j ∧ blkA x.B ≠ some j) → w'.heap[j]? = some o
def LinePost (base : Nat) (l : List TX) (w : World) (r : Except Int (List Tg)) (e : Ending) (w' : World) : Prop :=
  (∃ n : Int, n ≠ 0 ∧ r = .error n ∧ e = .returned (.tuple #[.slice none 0 0, .int .i64 n]) ∧ Below w.heap.size w w') ∨
  (∃ A c L, r = .ok (tgsX L) ∧ e = .returned (.tuple #[.slice A (List.length L) c, .int .i64 0]) ∧ RowT base w' A c L ∧ Below base w w' ∧ KeepL l w w')

set_option maxRecDepth 100000 in
set_option maxHeartbeats 8000000 in
theorem brefline_target (base : Nat) (L : List TX) (A : Option Addr) (c : Nat) (dir s wd : ByteArray) (w : World) (h : RowT base w A c L) (hbw : base ≤ w.heap.size) (hl : L.length ≤ 100000) (hd : dir.size ≤ 100000) (hs : s.size ≤ 100000) (hwd : (wd.toList == [116, 97, 114, 103, 101, 116]) = true) :
    Calls Tryd.prog 57 #[.slice A L.length c, .string dir, .string wd, .string s] w (LinePost base L w (targetT dir.data.toList (tgsX L) s.data.toList)) := by
  have HH := Lib.hid h
  obtain ⟨N, hN⟩ : ∃ N, L.length = N := ⟨_, rfl⟩
  have HN := Lib.hid hN
  rw [hN] at hl ⊢
  clear h hN
  go_enter Tryd.func57, Tryd.ntmps57
  obtain ⟨A1, c1, e1, hn1, -, -, -⟩ := own_slice HH.out.row
  cases e1
  have HT := Lib.hid HH.out.at_
  have HA := Lib.hid hn1
  clear hn1

  go_upto_region 3 with (at_builtin; go_loud (refine wpList_append_tgs rfl _ _ rfl w.heap.size (.slice none 0 0) A c [] L rfl (World.ownsRow_nil _ _ _ _) (by rw [HN.out]; rfl) HT.out HA.out (by rw [HN.out]; simp; omega) (Nat.le_refl _) ?_; intro v2 w2 hown2 hgr2))
  rw [List.nil_append, HN.out] at hown2
  obtain ⟨A2, c2, e2, hn2, -, hm2, -⟩ := own_slice (l := L) (by rw [HN.out]; exact hown2)
  rw [HN.out] at e2
  subst e2
  have hb2 : Below w.heap.size w w2 := (Below.refl _ _).grown hgr2 (Nat.le_refl _) (fun _ e => by simp [Value.ownBlock] at e)
  have HB2 := Lib.hid hb2
  have HF2 := Lib.hid (fun (j : Nat) (e : blkA A2 = some j) => (row_ge hown2 ((own_blk _ _ _).trans e)).1)
  have HR2 := Lib.hid (HH.out.copied hb2.size (fun j cur _ ho => (hb2.block j (Array.getElem?_eq_some_iff.1 ho).1).trans ho) (by rw [HN.out]; exact own_lower hown2 hbw))
  have hs2 := hb2.size
  clear hown2 hgr2 hb2
  have HNA := Lib.hid (brefnamed_any s w2 (by unfold maxLen; omega))
  have wn : IntKind.i64.wrap ((N : Int) - 1) = (N : Int) - 1 := IntWalk.i64_in _ (by omega)
  cases hnt : namedT s.data.toList with
  | false =>
    have HT0 := Lib.hid (targetT_bad dir.data.toList (tgsX L) s.data.toList hnt)
    rw [hnt] at HNA
    clear hnt
    go_wp2_with fail
    refine HNA.out.mono ?_
    rintro e w3 ⟨rfl, rfl⟩
    go_wp2_with fail
    go_ret2
    exact .inl ⟨11, by decide, HT0.out, rfl, HB2.out⟩
  | true =>
    rw [hnt] at HNA
    have HNT := Lib.hid hnt
    clear hnt
    obtain ⟨lb, hlb⟩ : ∃ lb, dir ++ ⟨#[58]⟩ ++ s = lb := ⟨_, rfl⟩
    have hlbl : lb.data.toList = dir.data.toList ++ 58 :: s.data.toList := by rw [← hlb, label_bytes, mkB_data]
    have HLB := Lib.hid hlb
    have HLL := Lib.hid hlbl
    have HPL := Lib.hid (brefplace_any L A2 c2 lb w2 HR2.out.at_)
    rw [HN.out] at HPL
    clear hlb hlbl
    cases hmem : hasN (tgsX L) lb.data.toList with
    | true =>
      have hp := place_has hmem
      have HT0 := Lib.hid (targetT_twice dir.data.toList (tgsX L) s.data.toList HNT.out (by rw [← HLL.out]; exact (hasN_map _ _).1 hmem))
      obtain ⟨q, hq⟩ : ∃ q, placeT (tgsX L) lb.data.toList = q := ⟨_, rfl⟩
      rw [hq] at hp HPL
      clear hmem hq
      go_wp2_with fail
      refine HNA.out.mono ?_
      rintro e w3 ⟨rfl, rfl⟩
      go_wp2_with fail
      rw [HLB.out]
      refine HPL.out.mono ?_
      rintro e w4 ⟨rfl, hb4⟩
      have HB4 := Lib.hid hb4
      clear hb4
      go_wp2_with fail
      go_ret2
      exact .inl ⟨12, by decide, HT0.out, rfl, HB2.out.trans (HB4.out.mono HB2.out.size)⟩
    | false =>
      have hp := place_none hmem
      have hnew : targetT dir.data.toList (tgsX L) s.data.toList = .ok (tgsX (L ++ [newX lb])) := targetT_new _ _ _ _ HLL.out HNT.out (fun e => by
        have := (hasN_map (tgsX L) lb.data.toList).2 (by rw [HLL.out]; exact e)
        rw [hmem] at this; cases this)
      have HNEW := Lib.hid hnew
      rw [hp] at HPL
      clear hmem hp hnew
      go_wp2_with fail
      refine HNA.out.mono ?_
      rintro e w3 ⟨rfl, rfl⟩
      go_wp2_with fail
      rw [HLB.out]
      refine HPL.out.mono ?_
      rintro e w4 ⟨rfl, hb4⟩
      have HB4 := Lib.hid hb4
      have hs4 := hb4.size
      have HR4 := Lib.hid (HR2.out.below hb4)
      clear hb4
      have hX : TgOk w4 (newX lb) := ⟨fun h => absurd h (by simp [newX]), Nat.le_refl _, Nat.zero_le _, fun h => absurd h (by simp [newX]), Nat.le_refl _, Nat.zero_le _⟩
      have HX := Lib.hid (tgs_one w4 (newX lb) hX)
      clear hX
      go_wp2_with (at_builtin; go_loud (rw [HLB.out]; refine wpList_append_tgs rfl _ _ rfl base (.slice A2 N c2) (some ⟨w4.heap.size, 0, none⟩) 1 L [newX lb] rfl (by rw [HN.out]; have := HR4.out.row; rw [HN.out] at this; exact this.alloc _) rfl HX.out (fun e => by cases e) (by rw [HN.out]; simp; omega) (by rw [World.size_alloc]; omega) ?_; intro v5 w5 hown5 hgr5))
      have hb5 : Below base w4 w5 := ((Below.refl base w4).alloc (by omega) _).grown hgr5 (by rw [World.size_alloc]; omega) (fun _ e => (row_ge HR4.out.row (by rw [HN.out]; exact e)).1)
      have keep5 : ∀ j cur, base ≤ j → w4.heap[j]? = some (.cells cur 9 (0, 0)) → w5.heap[j]? = some (.cells cur 9 (0, 0)) := fun j cur _ ho => (hgr5.block j (by rw [World.size_alloc]; have := (Array.getElem?_eq_some_iff.1 ho).1; omega) (fun e => by
        obtain ⟨_, cur', hc⟩ := row_ge HR4.out.row (g := j) (by rw [HN.out]; exact e.symm)
        rw [ho] at hc; cases hc)).trans (Below.heap_alloc _ _ _ (Array.getElem?_eq_some_iff.1 ho).1 |>.trans ho)
      obtain ⟨A5, c5, e5, -, -, -, -⟩ := own_slice hown5
      subst e5
      have hlen : (L ++ [newX lb]).length = N + 1 := by rw [List.length_append, HN.out]; rfl
      have hr5 : RowT base w5 A5 c5 (L ++ [newX lb]) := HR4.out.more (by have := hgr5.size; rw [World.size_alloc] at this; omega) keep5 (by rw [List.length_append] at hown5; exact hown5)
      have HR5 := Lib.hid hr5
      have HB5 := Lib.hid (show Below base w w5 from (HB2.out.mono hbw).trans ((HB4.out.mono (by omega)).trans hb5))
      have HK5 := Lib.hid (show KeepL L w w5 from fun j o ho _ => by
        have h4 := (HB4.out.block j (by have := (Array.getElem?_eq_some_iff.1 ho).1; omega)).trans ((HB2.out.block j (Array.getElem?_eq_some_iff.1 ho).1).trans ho)
        exact (hgr5.block j (by rw [World.size_alloc]; have := (Array.getElem?_eq_some_iff.1 h4).1; omega) (fun e => by
          have h6 := HF2.out j (by rw [← own_blk A2 N c2]; exact e.symm)
          have := (Array.getElem?_eq_some_iff.1 ho).1; omega)).trans ((Below.heap_alloc _ _ _ (Array.getElem?_eq_some_iff.1 h4).1).trans h4))
      clear hb5 keep5 hown5 hgr5 hr5
      go_wp2_with fail
      go_ret2
      exact .inr ⟨A5, c5, L ++ [newX lb], HNEW.out, by first | rfl | (rw [hlen]; rfl), HR5.out, HB5.out, HK5.out⟩

set_option maxRecDepth 100000 in
set_option maxHeartbeats 8000000 in
theorem brefline_src (base : Nat) (L : List TX) (A : Option Addr) (c : Nat) (dir s wd : ByteArray) (w : World) (h : RowT base w A c L) (hbw : base ≤ w.heap.size) (hl : L.length ≤ 100000) (hl2 : ∀ x ∈ L, x.s.length ≤ 100000) (hd : dir.size ≤ 100000) (hs : s.size ≤ 100000) (hw1 : (wd.toList == [116, 97, 114, 103, 101, 116]) = false) (hw2 : (wd.toList == [115, 114, 99]) = true) :
    Calls Tryd.prog 57 #[.slice A L.length c, .string dir, .string wd, .string s] w (LinePost base L w (srcT dir.data.toList (tgsX L) s.data.toList)) := by
  have HH := Lib.hid h
  obtain ⟨N, hN⟩ : ∃ N, L.length = N := ⟨_, rfl⟩
  have HN := Lib.hid hN
  have HL2 := Lib.hid hl2
  rw [hN] at hl ⊢
  clear h hN hl2
  obtain ⟨q, hq⟩ : ∃ q, join2 dir.data.toList s.data.toList = q := ⟨_, rfl⟩
  have hps : (mkB q).size ≤ 200001 := by
    rw [← hq, mkB_size]
    have := join2_len dir.data.toList s.data.toList
    have e1 := size_listT dir
    have e2 := size_listT s
    omega
  have HQ := Lib.hid hq
  obtain ⟨A1, c1, e1, hn1, -, -, -⟩ := own_slice HH.out.row
  cases e1
  have HT := Lib.hid HH.out.at_
  have HA := Lib.hid hn1
  clear hn1 hq
  go_enter Tryd.func57, Tryd.ntmps57
  go_upto_region 3 with (at_builtin; go_loud (refine wpList_append_tgs rfl _ _ rfl w.heap.size (.slice none 0 0) A c [] L rfl (World.ownsRow_nil _ _ _ _) (by rw [HN.out]; rfl) HT.out HA.out (by rw [HN.out]; simp; omega) (Nat.le_refl _) ?_; intro v2 w2 hown2 hgr2))
  rw [List.nil_append, HN.out] at hown2
  obtain ⟨A2, c2, e2, hn2, -, hm2, -⟩ := own_slice (l := L) (by rw [HN.out]; exact hown2)
  rw [HN.out] at e2
  subst e2
  have hb2 : Below w.heap.size w w2 := (Below.refl _ _).grown hgr2 (Nat.le_refl _) (fun _ e => by simp [Value.ownBlock] at e)
  have HB2 := Lib.hid hb2
  have HF2 := Lib.hid (fun (j : Nat) (e : blkA A2 = some j) => (row_ge hown2 ((own_blk _ _ _).trans e)).1)
  have HR2 := Lib.hid (HH.out.copied hb2.size (fun j cur _ ho => (hb2.block j (Array.getElem?_eq_some_iff.1 ho).1).trans ho) (by rw [HN.out]; exact own_lower hown2 hbw))
  have hs2 := hb2.size
  clear hown2 hgr2 hb2
  have hj := refjoin_any dir s w2 (by omega) (by omega)
  rw [HQ.out] at hj
  have HJ := Lib.hid hj
  have hri := refright_any (mkB q) w2 (by omega)
  rw [mkB_data] at hri
  have HRI := Lib.hid hri
  clear hj hri
  rcases Nat.eq_zero_or_pos N with h0 | h0
  · subst h0
    have hbad : srcT dir.data.toList (tgsX L) s.data.toList = .error 11 := srcT_bad _ _ _ (by rw [List.eq_nil_of_length_eq_zero HN.out]; rfl)
    have HBAD := Lib.hid hbad
    have wn : IntKind.i64.wrap (0 - 1) = -1 := by rfl
    clear hbad
    go_wp2_with fail
    refine HJ.out.mono ?_
    rintro e w3 ⟨rfl, rfl⟩
    go_wp2_with fail
    go_ret2
    exact .inl ⟨11, by decide, HBAD.out, rfl, HB2.out⟩
  · obtain ⟨m, rfl⟩ : ∃ m, N = m + 1 := ⟨N - 1, by omega⟩
    have wn : IntKind.i64.wrap ((m : Int) + 1 - 1) = (m : Int) := by rw [show ((m : Int) + 1 - 1) = (m : Int) from by omega]; exact IntWalk.i64_in _ (by omega)
    have m0 : ¬ (m : Int) < 0 := by omega
    cases hrt : rightB q with
    | false =>
      have hbad : srcT dir.data.toList (tgsX L) s.data.toList = .error 11 := srcT_bad _ _ _ (by rw [HQ.out, hrt, Bool.and_false])
      have HBAD := Lib.hid hbad
      rw [hrt] at HRI
      clear hbad hrt
      go_wp2_with fail
      refine HJ.out.mono ?_
      rintro e w3 ⟨rfl, rfl⟩
      go_wp2_with fail
      refine HRI.out.mono ?_
      rintro e w4 ⟨rfl, hb4⟩
      have HB4 := Lib.hid hb4
      clear hb4
      go_wp2_with fail
      go_ret2
      exact .inl ⟨11, by decide, HBAD.out, rfl, HB2.out.trans (HB4.out.mono HB2.out.size)⟩
    | true =>
      rw [hrt] at HRI
      have HRT := Lib.hid hrt
      clear hrt
      go_wp2_with fail
      refine HJ.out.mono ?_
      rintro e w3 ⟨rfl, rfl⟩
      go_wp2_with fail
      refine HRI.out.mono ?_
      rintro e w4 ⟨rfl, hb4⟩
      have HB4 := Lib.hid hb4
      have hs4 := hb4.size
      have hr4 := HR2.out.below hb4
      clear hb4
      obtain ⟨M, x, hL⟩ : ∃ M x, L = M ++ [x] := by
        rcases List.eq_nil_or_concat L with e | ⟨M, x, e⟩
        · have := HN.out; rw [e] at this; simp at this
        · exact ⟨M, x, by rw [e, List.concat_eq_append]⟩
      have hm : M.length = m := by have := HN.out; rw [hL] at this; simpa using this
      have hxl : x.s.length ≤ 100000 := HL2.out x (by rw [hL]; simp)
      obtain ⟨g, c', hv, hgb, hgl⟩ := hr4.row.form (by rw [HN.out]; omega)
      rw [hL] at hr4
      simp only [Value.slice.injEq] at hv
      obtain ⟨rfl, -, rfl⟩ := hv
      obtain ⟨_, cur, hgc⟩ := row_ge hr4.row (g := g) rfl
      obtain ⟨hL4, -⟩ := hr4.last M x rfl
      have hxg := no_textB hL4.s hgc
      have hcu : w4.cell? ⟨g, m * 3 + 1, none⟩ = some (.slice x.A x.s.length x.c) := by
        have a := (gcells_at (M ++ [x]) m x (by rw [← hm]; simp)).2.1
        have b := World.ownsRow.cells hr4.row (g := g) rfl _ _ a
        rwa [Go.WideShapes.add_plain, Nat.zero_add] at b
      have hcg : ∀ w' : World, w'.heap[g]? = some (.cells cur 37 (0, 0)) → w'.cell? ⟨g, m * 3 + 1, none⟩ = some (.slice x.A x.s.length x.c) ∧ w'.frozen? ⟨g, m * 3 + 1, none⟩ = false := fun w' hw => ⟨(cell_of_row w' g _ _ _ _ hw).trans ((cell_of_row w4 g _ _ _ _ hgc).symm.trans hcu), frozen_of_row w' g _ _ _ hw⟩
      have HCG := Lib.hid hcg
      have HGC := Lib.hid hgc
      have HR4 := Lib.hid hr4
      have HL4 := Lib.hid hL4
      have HXG := Lib.hid hxg
      have HM := Lib.hid hm
      have HLE := Lib.hid hL
      obtain ⟨si, hi, hz0, hz1, hz2⟩ := info_parts string_info
      have HI := Lib.hid hi
      have HZ0 := Lib.hid hz0
      have hbb := HB2.out.mono hbw
      have hnew : ∀ (A' : Option Addr) (b : Nat), srcT dir.data.toList (tgsX L) s.data.toList = .ok (tgsX (M ++ [{ x with A := A', c := b, s := x.s ++ [q] }])) := fun A' b => by
        have := srcT_good dir.data.toList M x s.data.toList A' b (by rw [HQ.out]; exact HRT.out)
        rw [HQ.out] at this
        rw [hL]; exact this
      have HNEW := Lib.hid hnew
      have HBB := Lib.hid hbb
      clear hcg hgc hr4 hL4 hxg hm hL hi hz0 hnew hbb
      go_wp2_with (at_builtin; go_loud (refine wpList_append_lies _ rfl _ _ 34 rfl base 9 si (.string ⟨#[]⟩) 1 16 Tryd.underlying34 HI.out HZ0.out hz1 hz2 rfl (by decide) (.slice x.A x.s.length x.c) x.s.length (strVs x.s) rfl (HL4.out.s.alloc _) ⟨w4.heap.size, 0, none⟩ 1 1 [.string (mkB q)] rfl rfl (one_cellB _ _ _) (by intro u hu; simp only [List.mem_singleton] at hu; subst hu; rfl) (by decide) (by unfold maxLen; omega) (by omega) (by rw [World.size_alloc]; omega) _ rfl ?_; intro g8 c8 w8 hown8 hgr8 hat8 _; rw [own_blk] at hgr8 hat8; rw [← strVs_oneB] at hown8; obtain ⟨hO2, hT2, hk2⟩ := HR4.out.laySrc (by omega) hgr8 hown8 (hat8.imp id (fun e => by rw [e, World.size_alloc]; rfl)); have hg8 := (hgr8.block g (by have := (Array.getElem?_eq_some_iff.1 HGC.out).1; rw [World.size_alloc]; omega) (fun e => HXG.out e.symm)).trans (row_belowB HGC.out ((Below.refl _ _).alloc (Nat.le_refl _) _)); obtain ⟨d2, e2⟩ := HCG.out w8 hg8; have HO2 := Lib.hid hO2; have HT2 := Lib.hid hT2; have HK2 := Lib.hid hk2; clear hO2 hT2 hk2 hown8 hgr8 hat8 hg8))
      go_ret2
      rw [HM.out] at HO2 HT2 HK2
      have hlen : (M ++ [({ x with A := some ⟨g8, 0, none⟩, c := c8, s := x.s ++ [q] } : TX)]).length = m + 1 := by rw [List.length_append, HM.out]; rfl
      exact .inr ⟨_, c2, _, HNEW.out _ _, by rw [hlen]; rfl, HO2.out, HBB.out.trans ((HB4.out.mono (by omega)).trans HT2.out), fun j o ho hx => by
        have hj := (Array.getElem?_eq_some_iff.1 ho).1
        have h4 := (HB4.out.block j (by omega)).trans ((HB2.out.block j hj).trans ho)
        exact HK2.out j o h4 (hx x (by rw [HLE.out]; simp)).1 (fun e => by have := HF2.out g rfl; omega)⟩
set_option maxRecDepth 100000 in
set_option maxHeartbeats 8000000 in
theorem brefline_dep (base : Nat) (L : List TX) (A : Option Addr) (c : Nat) (dir s wd : ByteArray) (w : World) (h : RowT base w A c L) (hbw : base ≤ w.heap.size) (hl : L.length ≤ 100000) (hl2 : ∀ x ∈ L, x.d.length ≤ 100000) (hd : dir.size ≤ 100000) (hs : s.size ≤ 100000) (hw1 : (wd.toList == [116, 97, 114, 103, 101, 116]) = false) (hw2 : (wd.toList == [115, 114, 99]) = false) (hw3 : (wd.toList == [100, 101, 112]) = true) :
    Calls Tryd.prog 57 #[.slice A L.length c, .string dir, .string wd, .string s] w (LinePost base L w (depT dir.data.toList (tgsX L) s.data.toList)) := by
  have HH := Lib.hid h
  obtain ⟨N, hN⟩ : ∃ N, L.length = N := ⟨_, rfl⟩
  have HN := Lib.hid hN
  have HL2 := Lib.hid hl2
  rw [hN] at hl ⊢
  clear h hN hl2
  obtain ⟨A1, c1, e1, hn1, -, -, -⟩ := own_slice HH.out.row
  cases e1
  have HT := Lib.hid HH.out.at_
  have HA := Lib.hid hn1
  clear hn1
  go_enter Tryd.func57, Tryd.ntmps57
  go_upto_region 3 with (at_builtin; go_loud (refine wpList_append_tgs rfl _ _ rfl w.heap.size (.slice none 0 0) A c [] L rfl (World.ownsRow_nil _ _ _ _) (by rw [HN.out]; rfl) HT.out HA.out (by rw [HN.out]; simp; omega) (Nat.le_refl _) ?_; intro v2 w2 hown2 hgr2))
  rw [List.nil_append, HN.out] at hown2
  obtain ⟨A2, c2, e2, hn2, -, hm2, -⟩ := own_slice (l := L) (by rw [HN.out]; exact hown2)
  rw [HN.out] at e2
  subst e2
  have hb2 : Below w.heap.size w w2 := (Below.refl _ _).grown hgr2 (Nat.le_refl _) (fun _ e => by simp [Value.ownBlock] at e)
  have HB2 := Lib.hid hb2
  have HF2 := Lib.hid (fun (j : Nat) (e : blkA A2 = some j) => (row_ge hown2 ((own_blk _ _ _).trans e)).1)
  have HR2 := Lib.hid (HH.out.copied hb2.size (fun j cur _ ho => (hb2.block j (Array.getElem?_eq_some_iff.1 ho).1).trans ho) (by rw [HN.out]; exact own_lower hown2 hbw))
  have hs2 := hb2.size
  clear hown2 hgr2 hb2
  have HJ := Lib.hid (breflabel_any dir s w2 (by omega) (by omega))
  rcases Nat.eq_zero_or_pos N with h0 | h0
  · subst h0
    have hbad : depT dir.data.toList (tgsX L) s.data.toList = .error 11 := by rw [List.eq_nil_of_length_eq_zero HN.out]; rfl
    have HBAD := Lib.hid hbad
    have wn : IntKind.i64.wrap (0 - 1) = -1 := by rfl
    clear hbad
    go_wp2_with fail
    refine HJ.out.mono ?_
    rintro e w3 ⟨rfl, hb3⟩
    have HB3 := Lib.hid hb3
    clear hb3
    go_wp2_with fail
    go_ret2
    exact .inl ⟨11, by decide, HBAD.out, rfl, HB2.out.trans (HB3.out.mono HB2.out.size)⟩
  · obtain ⟨m, rfl⟩ : ∃ m, N = m + 1 := ⟨N - 1, by omega⟩
    have wn : IntKind.i64.wrap ((m : Int) + 1 - 1) = (m : Int) := by rw [show ((m : Int) + 1 - 1) = (m : Int) from by omega]; exact IntWalk.i64_in _ (by omega)
    have m0 : ¬ (m : Int) < 0 := by omega
    have hne : (tgsX L).isEmpty = false := by
      cases hc : tgsX L with
      | nil => have := tgsX_length L; rw [hc, HN.out] at this; simp at this
      | cons _ _ => rfl
    cases hrt : labelT dir.data.toList s.data.toList with
    | none =>
      have hbad : depT dir.data.toList (tgsX L) s.data.toList = .error 11 := by unfold depT; rw [hne, hrt]; rfl
      have HBAD := Lib.hid hbad
      rw [hrt] at HJ
      clear hbad hrt hne
      go_wp2_with fail
      refine HJ.out.mono ?_
      rintro e w3 ⟨rfl, hb3⟩
      have HB3 := Lib.hid hb3
      clear hb3
      go_wp2_with fail
      go_ret2
      exact .inl ⟨11, by decide, HBAD.out, rfl, HB2.out.trans (HB3.out.mono HB2.out.size)⟩
    | some q =>
      rw [hrt] at HJ
      have HRT := Lib.hid hrt
      have hj : Calls Tryd.prog 84 #[.string dir, .string s] w2 fun e w' => e = .returned (.tuple #[.string (mkB q), .bool true]) ∧ Below w2.heap.size w2 w' := HJ.out
      have HJ2 := Lib.hid hj
      clear hrt hne hj
      go_wp2_with fail
      refine HJ2.out.mono ?_
      rintro e w4 ⟨rfl, hb4⟩
      have HB4 := Lib.hid hb4
      have hs4 := hb4.size
      have hr4 := HR2.out.below hb4
      clear hb4
      obtain ⟨M, x, hL⟩ : ∃ M x, L = M ++ [x] := by
        rcases List.eq_nil_or_concat L with e | ⟨M, x, e⟩
        · have := HN.out; rw [e] at this; simp at this
        · exact ⟨M, x, by rw [e, List.concat_eq_append]⟩
      have hm : M.length = m := by have := HN.out; rw [hL] at this; simpa using this
      have hxl : x.d.length ≤ 100000 := HL2.out x (by rw [hL]; simp)
      obtain ⟨g, c', hv, hgb, hgl⟩ := hr4.row.form (by rw [HN.out]; omega)
      rw [hL] at hr4
      simp only [Value.slice.injEq] at hv
      obtain ⟨rfl, -, rfl⟩ := hv
      obtain ⟨_, cur, hgc⟩ := row_ge hr4.row (g := g) rfl
      obtain ⟨hL4, -⟩ := hr4.last M x rfl
      have hxg := no_textB hL4.d hgc
      have hcu : w4.cell? ⟨g, m * 3 + 2, none⟩ = some (.slice x.B x.d.length x.b) := by
        have a := (gcells_at (M ++ [x]) m x (by rw [← hm]; simp)).2.2
        have b := World.ownsRow.cells hr4.row (g := g) rfl _ _ a
        rwa [Go.WideShapes.add_plain, Nat.zero_add] at b
      have hcg : ∀ w' : World, w'.heap[g]? = some (.cells cur 37 (0, 0)) → w'.cell? ⟨g, m * 3 + 2, none⟩ = some (.slice x.B x.d.length x.b) ∧ w'.frozen? ⟨g, m * 3 + 2, none⟩ = false := fun w' hw => ⟨(cell_of_row w' g _ _ _ _ hw).trans ((cell_of_row w4 g _ _ _ _ hgc).symm.trans hcu), frozen_of_row w' g _ _ _ hw⟩
      have HCG := Lib.hid hcg
      have HGC := Lib.hid hgc
      have HR4 := Lib.hid hr4
      have HL4 := Lib.hid hL4
      have HXG := Lib.hid hxg
      have HM := Lib.hid hm
      have HLE := Lib.hid hL
      obtain ⟨si, hi, hz0, hz1, hz2⟩ := info_parts string_info
      have HI := Lib.hid hi
      have HZ0 := Lib.hid hz0
      have hbb := HB2.out.mono hbw
      have hnew : ∀ (A' : Option Addr) (b : Nat), depT dir.data.toList (tgsX L) s.data.toList = .ok (tgsX (M ++ [{ x with B := A', b := b, d := x.d ++ [q] }])) := fun A' b => by
        rw [hL]; exact depT_good dir.data.toList M x s.data.toList q A' b HRT.out
      have HNEW := Lib.hid hnew
      have HBB := Lib.hid hbb
      clear hcg hgc hr4 hL4 hxg hm hL hi hz0 hnew hbb
      clear HJ
      go_wp2_with (at_builtin; go_loud (refine wpList_append_lies _ rfl _ _ 34 rfl base 9 si (.string ⟨#[]⟩) 1 16 Tryd.underlying34 HI.out HZ0.out hz1 hz2 rfl (by decide) (.slice x.B x.d.length x.b) x.d.length (strVs x.d) rfl (HL4.out.d.alloc _) ⟨w4.heap.size, 0, none⟩ 1 1 [.string (mkB q)] rfl rfl (one_cellB _ _ _) (by intro u hu; simp only [List.mem_singleton] at hu; subst hu; rfl) (by decide) (by unfold maxLen; omega) (by omega) (by rw [World.size_alloc]; omega) _ rfl ?_; intro g8 c8 w8 hown8 hgr8 hat8 _; rw [own_blk] at hgr8 hat8; rw [← strVs_oneB] at hown8; obtain ⟨hO2, hT2, hk2⟩ := HR4.out.layDep (by omega) hgr8 hown8 (hat8.imp id (fun e => by rw [e, World.size_alloc]; rfl)); have hg8 := (hgr8.block g (by have := (Array.getElem?_eq_some_iff.1 HGC.out).1; rw [World.size_alloc]; omega) (fun e => HXG.out e.symm)).trans (row_belowB HGC.out ((Below.refl _ _).alloc (Nat.le_refl _) _)); obtain ⟨d2, e2⟩ := HCG.out w8 hg8; have HO2 := Lib.hid hO2; have HT2 := Lib.hid hT2; have HK2 := Lib.hid hk2; clear hO2 hT2 hk2 hown8 hgr8 hat8 hg8))
      go_ret2
      rw [HM.out] at HO2 HT2 HK2
      have hlen : (M ++ [({ x with B := some ⟨g8, 0, none⟩, b := c8, d := x.d ++ [q] } : TX)]).length = m + 1 := by rw [List.length_append, HM.out]; rfl
      exact .inr ⟨_, c2, _, HNEW.out _ _, by rw [hlen]; rfl, HO2.out, HBB.out.trans ((HB4.out.mono (by omega)).trans HT2.out), fun j o ho hx => by
        have hj := (Array.getElem?_eq_some_iff.1 ho).1
        have h4 := (HB4.out.block j (by omega)).trans ((HB2.out.block j hj).trans ho)
        exact HK2.out j o h4 (hx x (by rw [HLE.out]; simp)).2 (fun e => by have := HF2.out g rfl; omega)⟩

set_option maxRecDepth 100000 in
set_option maxHeartbeats 8000000 in
theorem brefline_other (base : Nat) (L : List TX) (A : Option Addr) (c : Nat) (dir s wd : ByteArray) (w : World) (h : RowT base w A c L) (hl : L.length ≤ 100000) (hw1 : (wd.toList == [116, 97, 114, 103, 101, 116]) = false) (hw2 : (wd.toList == [115, 114, 99]) = false) (hw3 : (wd.toList == [100, 101, 112]) = false) :
    Calls Tryd.prog 57 #[.slice A L.length c, .string dir, .string wd, .string s] w (LinePost base L w (.error 11)) := by
  have HH := Lib.hid h
  obtain ⟨N, hN⟩ : ∃ N, L.length = N := ⟨_, rfl⟩
  have HN := Lib.hid hN
  rw [hN] at hl ⊢
  clear h hN
  obtain ⟨A1, c1, e1, hn1, -, -, -⟩ := own_slice HH.out.row
  cases e1
  have HT := Lib.hid HH.out.at_
  have HA := Lib.hid hn1
  clear hn1
  go_enter Tryd.func57, Tryd.ntmps57
  go_upto_region 3 with (at_builtin; go_loud (refine wpList_append_tgs rfl _ _ rfl w.heap.size (.slice none 0 0) A c [] L rfl (World.ownsRow_nil _ _ _ _) (by rw [HN.out]; rfl) HT.out HA.out (by rw [HN.out]; simp; omega) (Nat.le_refl _) ?_; intro v2 w2 hown2 hgr2))
  rw [List.nil_append, HN.out] at hown2
  obtain ⟨A2, c2, e2, hn2, -, hm2, -⟩ := own_slice (l := L) (by rw [HN.out]; exact hown2)
  rw [HN.out] at e2
  subst e2
  have hb2 : Below w.heap.size w w2 := (Below.refl _ _).grown hgr2 (Nat.le_refl _) (fun _ e => by simp [Value.ownBlock] at e)
  have HB2 := Lib.hid hb2
  clear hown2 hgr2 hb2
  go_wp2_with fail
  go_ret2
  exact .inl ⟨11, by decide, rfl, rfl, HB2.out⟩

theorem keyL (wd : ByteArray) (K : Bs) : (wd.toList == K) = (wd.data.toList == K) := by rw [ByteArray.toList_eq]
theorem brefline_any (base : Nat) (L : List TX) (A : Option Addr) (c : Nat) (dir s wd : ByteArray) (w : World) (h : RowT base w A c L) (hbw : base ≤ w.heap.size) (hl : L.length ≤ 100000) (hl2 : ∀ x ∈ L, x.s.length ≤ 100000 ∧ x.d.length ≤ 100000) (hd : dir.size ≤ 100000) (hs : s.size ≤ 100000) :
    Calls Tryd.prog 57 #[.slice A L.length c, .string dir, .string wd, .string s] w (LinePost base L w (actT dir.data.toList (tgsX L) wd.data.toList s.data.toList)) := by
  unfold actT
  cases h1 : (wd.data.toList == tgtW) with
  | true => exact brefline_target base L A c dir s wd w h hbw hl hd hs ((keyL wd _).trans h1)
  | false =>
    cases h2 : (wd.data.toList == srcW) with
    | true => exact brefline_src base L A c dir s wd w h hbw hl (fun x hx => (hl2 x hx).1) hd hs ((keyL wd _).trans h1) ((keyL wd _).trans h2)
    | false =>
      cases h3 : (wd.data.toList == depW) with
      | true => exact brefline_dep base L A c dir s wd w h hbw hl (fun x hx => (hl2 x hx).2) hd hs ((keyL wd _).trans h1) ((keyL wd _).trans h2) ((keyL wd _).trans h3)
      | false => exact brefline_other base L A c dir s wd w h hl ((keyL wd _).trans h1) ((keyL wd _).trans h2) ((keyL wd _).trans h3)
end Go.Proofs.YtckpojkbcbogbaaDoor
namespace Go.Proofs.YtckpojkbcbogbaaDoor
open Go Go.RowKit Go.Shelf Go.Proofs
attribute [local go_sem] Oper.semAt_some

theorem split_head (c : UInt8) : ∀ l : Bs, (splitL c l)[0]? = some (l.takeWhile (fun b => b != c))
  | [] => rfl
  | b :: r => by
    have ih := split_head c r
    unfold splitL
    by_cases h : (b == c) = true
    · rw [if_pos h, List.takeWhile_cons, if_neg (by rw [beq_iff_eq] at h; simp [h])]; rfl
    · rw [if_neg h, List.takeWhile_cons, if_pos (by simpa using h)]
      cases e : splitL c r with
      | nil => exact absurd e (splitL_ne c r)
      | cons p ps =>
        rw [e] at ih
        simp only [List.getElem?_cons_zero, Option.some.injEq] at ih
        simp [ih]
def keptW (l : List Bs) : List Bs := l.filter (fun p => !p.isEmpty)
theorem keptW_snoc (l : List Bs) (p : Bs) : keptW (l ++ [p]) = if p.isEmpty then keptW l else keptW l ++ [p] := by
  unfold keptW
  rw [List.filter_append]
  cases p <;> simp
theorem keptW_len (l : List Bs) : (keptW l).length ≤ l.length := List.length_filter_le _ _
theorem strVs_one (P : List Bs) (p : Bs) : strVs (P ++ [p]) = strVs P ++ [.string (mkB p)] := by simp [strVs, strV]

/-- What Words answers: a row of its own. -/
def WordsPost (w : World) (l : List Bs) (e : Ending) (w' : World) : Prop := ∃ A c, e = .returned (.slice A l.length c) ∧ StrsT w.heap.size w' A l ∧ l.length ≤ c ∧ c ≤ maxLen ∧ Below w.heap.size w w'
set_option maxRecDepth 100000 in
set_option maxHeartbeats 4000000 in
theorem refwords_any (s : ByteArray) (w : World) (hs : s.size ≤ 1000000) :
    Calls Tryd.prog 56 #[.string s] w (WordsPost w (wordsL s.data.toList)) := by
  obtain ⟨i0, hi, hz0, hz1, hz2⟩ := info_parts string_info
  have hl : s.data.toList.length = s.size := Array.length_toList
  have HW : Hid (wordsL s.data.toList = keptW (splitL 32 (cutR s.data.toList))) := rfl
  have hcl := cutT_le s.data.toList
  obtain ⟨T, hT⟩ : ∃ T, mkB (cutR s.data.toList) = T := ⟨_, rfl⟩
  have hTl : T.data.toList = cutR s.data.toList := by rw [← hT, mkB_data]
  have hTs : T.size ≤ 1000000 := by rw [← hT, mkB_size]; omega
  have h0 : (splitL 35 s.data.toList)[0]? = some (cutR s.data.toList) := split_head 35 _
  have hne := splitL_ne 35 s.data.toList
  obtain ⟨L, hL⟩ : ∃ L, splitL 35 s.data.toList = L := ⟨_, rfl⟩
  have HS := Lib.hid (refsplit_any s 35 w (by omega))
  rw [hL] at h0 HS hne
  have H0 := Lib.hid h0
  have HT := Lib.hid hT
  have HTL := Lib.hid hTl
  have hne0 : L.length ≠ 0 := fun e => hne (List.eq_nil_of_length_eq_zero e)
  clear h0 hne hL hcl hTl hT hl
  go_enter Tryd.func56, Tryd.ntmps56
  go_wp2_with fail
  refine HS.out.mono ?_
  rintro e w1 ⟨v, rfl, hrow, hb1⟩
  obtain ⟨g, cap, rfl, hr, _, _⟩ := names_row hrow hne0
  obtain ⟨n, hn⟩ : ∃ n, L.length = n + 1 := ⟨L.length - 1, by omega⟩
  have c1 : w1.cell? ⟨g, 0, none⟩ = some (.string T) := by rw [← HT.out]; exact hr 0 _ H0.out
  rw [hn]
  have HS2 := Lib.hid (refsplit_any T 32 w1 (by omega))
  rw [HTL.out] at HS2
  have hsm := splitL_length 32 (cutR s.data.toList)
  have hcs : (cutR s.data.toList).length ≤ 1000000 := by rw [← HTL.out, Array.length_toList]; exact hTs
  obtain ⟨M, hM⟩ : ∃ M, splitL 32 (cutR s.data.toList) = M := ⟨_, rfl⟩
  have hne2 := splitL_ne 32 (cutR s.data.toList)
  rw [hM] at HS2 HW hsm hne2
  have hml : M.length ≤ 1000001 := by omega
  have hm0 : M.length ≠ 0 := fun e => hne2 (List.eq_nil_of_length_eq_zero e)
  have HB1 := Lib.hid hb1
  clear hrow hr hb1 hM hsm hcs hne2 HS
  go_wp2_with fail
  refine HS2.out.mono ?_
  rintro e w2 ⟨v2, rfl, hrow2, hb2⟩
  obtain ⟨g2, cap2, rfl, hr2, hg1, hg2⟩ := names_row hrow2 hm0
  have HR2 := Lib.hid hr2
  have HB2 := Lib.hid (HB1.out.trans (hb2.mono HB1.out.size))
  obtain ⟨m, hm⟩ : ∃ m, M.length = m := ⟨_, rfl⟩
  rw [hm]
  rw [hm] at hml
  have HM := Lib.hid hm
  clear hrow2 hr2 hb2 HS2 HB1 hm hm0
  go_wp2_with fail
  go_loopw [4, 5] (fun v i wr => ∃ k : Nat, k ≤ m ∧ i = .int .i64 k ∧ wr.ownsRow w2.heap.size 9 1 v (keptW (M.take k)).length (strVs (keptW (M.take k))) ∧ Below w2.heap.size w2 wr) (fun _ i _ => m - (intOf i).toNat)
  case atStart => exact ⟨0, Nat.zero_le _, rfl, World.ownsRow_nil _ _ _ _, Below.refl _ _⟩
  case round =>
    obtain ⟨k, hk, rfl, hrow, hbr⟩ := hrel
    have hW : w2.heap.size ≤ wr.heap.size := hbr.size
    by_cases h1 : k < m
    · have hkl : k < M.length := by have := HM.out; omega
      obtain ⟨p, hp⟩ : ∃ p, M[k]? = some p := ⟨_, List.getElem?_eq_getElem hkl⟩
      have hc := (HR2.out.below hbr hg2) k p hp
      have hsn : keptW (M.take (k + 1)) = if p.isEmpty then keptW (M.take k) else keptW (M.take k) ++ [p] := by
        rw [List.take_add_one, hp]; exact keptW_snoc _ _
      have HSN := Lib.hid hsn
      have hkk := Nat.le_trans (keptW_len (M.take k)) (List.length_take_le k M)
      clear hsn hp hkl
      by_cases hpe : p = []
      · subst hpe
        have g1 : (!(mkB []).toList.isEmpty) = false := by rw [ByteArray.toList_eq, mkB_data]; rfl
        have g2 : (mkB []).toList.isEmpty = true := by rw [ByteArray.toList_eq, mkB_data]; rfl
        have g3 : (mkB []).toList = [] := by rw [ByteArray.toList_eq, mkB_data]
        go_wp2_with fail
        go_roundw
        case rel => exact ⟨k + 1, by omega, by go_num, by rw [HSN.out]; exact hrow, hbr⟩
        case measure => simp [intOf]; omega
      · have g1 : (!(mkB p).toList.isEmpty) = true := by rw [ByteArray.toList_eq, mkB_data]; cases p with | nil => exact absurd rfl hpe | cons _ _ => rfl
        have g2 : (mkB p).toList.isEmpty = false := by rw [ByteArray.toList_eq, mkB_data]; cases p with | nil => exact absurd rfl hpe | cons _ _ => rfl
        have g4 : p.isEmpty = false := by cases p with | nil => exact absurd rfl hpe | cons _ _ => rfl
        have HP := Lib.hid g4
        clear g4 hpe
        go_wp2_with (at_builtin; go_loud (refine wpList_append_own _ rfl _ _ 34 rfl w2.heap.size 9 i0 (.string ⟨#[]⟩) 1 16 Tryd.underlying34 hi hz0 hz1 hz2 rfl (by decide) _ _ _ rfl (hrow.alloc _) ⟨wr.heap.size, 0, none⟩ 1 1 [.string (mkB p)] rfl rfl (cell_one_new _ _ _) (by simp [Value.oneCell']) (by unfold maxLen; omega) (by omega) (by simp; omega) ?_; intro v' w3 hown' hgrow _))
        go_roundw
        case rel =>
          refine ⟨k + 1, by omega, by go_num, ?_, hbr.trans (((Below.refl _ _).alloc hW _).grown hgrow (by simp; omega) fun j ej => (row_ge hrow ej).1)⟩
          rw [HSN.out, if_neg (by rw [HP.out]; simp), List.length_append, strVs_one]; exact hown'
        case measure => simp [intOf]; omega
    · have h2 : k = M.length := by have := HM.out; omega
      subst h2
      rw [List.take_of_length_le (Nat.le_refl _)] at hrow
      obtain ⟨A, c, hv, hst, hc1, hc2⟩ := strsT_ownT hrow rfl
      subst hv
      have HST := Lib.hid hst
      clear hst hrow
      go_wp2_with fail
      go_ret
      exact ⟨A, c, by rw [HW.out]; rfl, by rw [HW.out]; exact HST.out.lower HB2.out.size, by rw [HW.out]; exact hc1, hc2, HB2.out.trans (hbr.mono HB2.out.size)⟩

end Go.Proofs.YtckpojkbcbogbaaDoor
namespace Go.Proofs.YtckpojkbcbogbaaDoor
open Go Go.RowKit Go.Shelf Go.Proofs
attribute [local go_sem] Oper.semAt_some

theorem words_len (p q : Bs) (h : q ∈ wordsL p) : q.length ≤ p.length := by
  have h6 := splitB_len 32 _ q (List.mem_filter.1 h).1
  have h7 := cutT_le p
  omega
theorem strs_cellB {w : World} {b g cap n : Nat} {l : List Bs} (h : w.ownsRow b 9 1 (.slice (some ⟨g, 0, none⟩) n cap) n (strVs l)) : ∀ i p, l[i]? = some p → w.cell? ⟨g, i, none⟩ = some (.string (mkB p)) := fun i p hp => by
  have := World.ownsRow.cells h (g := g) rfl i (.string (mkB p)) (by unfold strVs; rw [List.getElem?_map, hp]; rfl)
  rwa [Go.WideShapes.add_plain, Nat.zero_add] at this
/-- What a line answers, either way in one form. -/
def LineQ (base : Nat) (L : List TX) (w : World) (r : Except Int (List Tg)) (n : Int) (A : Option Addr) (c : Nat) (M : List TX) (w' : World) : Prop :=
  (KeepL L w w' ∧ Below base w w') ∧ ((n ≠ 0 ∧ r = .error n) ∨ (n = 0 ∧ r = .ok (tgsX M) ∧ RowT base w' A c M))
theorem lineT_ends {base : Nat} {L : List TX} {w w' : World} {r : Except Int (List Tg)} {e : Ending} (hb : base ≤ w.heap.size) (h : LinePost base L w r e w') : ∃ n A c M, e = .returned (.tuple #[.slice A (List.length M) c, .int .i64 n]) ∧ LineQ base L w r n A c M w' := by
  rcases h with ⟨n, hn, hr, he, hk⟩ | ⟨A, c, M, hr, he, hR, hb2, hk⟩
  · exact ⟨n, none, 0, [], he, ⟨fun j o ho _ => (hk.block j (Array.getElem?_eq_some_iff.1 ho).1).trans ho, hk.mono hb⟩, .inl ⟨hn, hr⟩⟩
  · exact ⟨0, A, c, M, he, ⟨hk, hb2⟩, .inr ⟨rfl, hr, hR⟩⟩
theorem linesB_err {dir : Bs} {L : List Bs} {k : Nat} {n : Int} (h : linesT dir ((L.take k).map wordsL) (.ok []) = .error n) : linesT dir (L.map wordsL) (.ok []) = .error n := by
  conv => lhs; rw [← List.take_append_drop k L, List.map_append, linesT_append, h, linesT_err]
theorem linesB_step {dir : Bs} {L : List Bs} {k : Nat} {p : Bs} {l : List Tg} (hp : L[k]? = some p) (h : linesT dir ((L.take k).map wordsL) (.ok []) = .ok l) : linesT dir ((L.take (k + 1)).map wordsL) (.ok []) = lineT dir l (wordsL p) := by
  rw [List.take_add_one, hp, Option.toList_some, List.map_append, linesT_append, h]
  rfl
/-- What Parse answers, and that no row has no room. -/
def BdPostN (r : Int × List Tg) (w : World) (e : Ending) (w' : World) : Prop := ∃ A c l, e = .returned (.tuple #[.slice A (List.length l) c, .int .i64 r.1]) ∧ TgsAt w' A c l ∧ tgsX l = r.2 ∧ Below w.heap.size w w' ∧ (A = none → c = 0) ∧ ∀ x ∈ l, TgT w.heap.size w' x
set_option maxRecDepth 100000 in
set_option maxHeartbeats 32000000 in
theorem brefparse_any (dir s : ByteArray) (w : World) (hd : dir.size ≤ 100000) (hs : s.size ≤ 1000000) :
    Calls Tryd.prog 29 #[.string dir, .string s] w (BdPostN (parseB dir.data.toList s.data.toList) w) := by
  have HRD := Lib.hid (refright_any dir w (by omega))
  by_cases hbad : (!dir.data.toList.isEmpty && !rightB dir.data.toList) = true
  · have HPV := Lib.hid (show parseB dir.data.toList s.data.toList = (4, []) by unfold parseB; rw [if_pos hbad])
    rw [Bool.and_eq_true] at hbad
    obtain ⟨h1, h2⟩ := hbad
    have g1 : dir.toList.isEmpty = false := by rw [ByteArray.toList_eq]; simpa using h1
    have g2 : (!dir.toList.isEmpty) = true := by rw [g1]; rfl
    have h3 : rightB dir.data.toList = false := by simpa using h2
    rw [h3] at HRD
    clear h1 h2 h3
    go_enter Tryd.func29, Tryd.ntmps29
    go_wp2_with fail
    refine HRD.out.mono ?_
    rintro e w1 ⟨rfl, hb1⟩
    have HB1 := Lib.hid hb1
    clear hb1
    go_wp2_with fail
    go_ret2
    exact ⟨none, 0, [], by rw [HPV.out]; rfl, TgsAt.nil _ _ _ (Nat.zero_le _), by rw [HPV.out]; rfl, HB1.out, fun _ => rfl, fun x hx => by cases hx⟩
  · have HP0 := Lib.hid (show parseB dir.data.toList s.data.toList = if 16384 < s.size then (3, []) else match linesT dir.data.toList ((splitL 10 s.data.toList).map wordsL) (.ok []) with
        | .error e => (e, [])
        | .ok l => (0, l) from by
      unfold parseB
      rw [if_neg hbad, size_listT]
      rfl)
    by_cases hde : dir.data.toList = []
    · have g1 : dir.toList.isEmpty = true := by rw [ByteArray.toList_eq, hde]; rfl
      have g2 : (!dir.toList.isEmpty) = false := by rw [g1]; rfl
      clear hbad hde
      go_enter Tryd.func29, Tryd.ntmps29
      go_upto_region 3 with fail
      obtain ⟨w1, hw1⟩ : ∃ W, w = W := ⟨_, rfl⟩
      have HB1 := Lib.hid (show Below w.heap.size w w1 by rw [← hw1]; exact Below.refl _ _)
      have HW1 := Lib.hid hw1
      rw [show (w : World) = w1 from hw1]
      clear hw1
      by_cases hbig : 16384 < s.size
      · have HPV := Lib.hid (HP0.out.trans (if_pos hbig))
        have b1 : (16384 : Int) < (s.size : Int) := by omega
        go_wp2_with fail
        go_ret2
        exact ⟨none, 0, [], by rw [HPV.out]; rfl, TgsAt.nil _ _ _ (Nat.zero_le _), by rw [HPV.out]; rfl, HB1.out, fun _ => rfl, fun x hx => by cases hx⟩
      · have b1 : ¬ (16384 : Int) < (s.size : Int) := by omega
        have HP1 := Lib.hid (HP0.out.trans (if_neg hbig))
        have HSP := Lib.hid (refsplit_any s 10 w1 (by omega))
        have hll := splitL_length 10 s.data.toList
        have hpl := splitB_len 10 s.data.toList
        rw [size_listT] at hll
        obtain ⟨L, hL⟩ : ∃ L, splitL 10 s.data.toList = L := ⟨_, rfl⟩
        rw [hL] at HSP hll hpl HP1
        have hL0 : 0 < L.length := by rw [← hL]; exact List.length_pos_iff.2 (splitL_ne 10 _)
        have HPL := Lib.hid hpl
        clear hL hpl hbig
        go_wp2_with fail
        refine HSP.out.mono ?_
        rintro e w2 ⟨v1, rfl, ho1, hb2⟩
        obtain ⟨g, cap, rfl, hr1, hg1, hg2⟩ := names_row ho1 (by omega)
        obtain ⟨n, hn⟩ : ∃ n, L.length = n := ⟨_, rfl⟩
        rw [hn] at hll hL0 ⊢
        have hgl : g < w2.heap.size := (World.ownsRow.lt ho1 g rfl).2
        have CL := Lib.hid (fun (W : World) (hb : Below w2.heap.size w2 W) (i : Nat) (p : Bs) (hp : L[i]? = some p) => show W.cell? ⟨g, i, none⟩ = some (.string (mkB p)) by
          exact (hb.cell (p := ⟨g, i, none⟩) hgl).trans (strs_cellB ho1 i p hp))
        have HN := Lib.hid hn
        have HB2 := Lib.hid (HB1.out.trans (hb2.mono HB1.out.size))
        clear hr1 ho1 hn hb2 hg1 hg2
        go_wp2_with fail
        go_loopw [6, 8] (fun v6 v8 wr => ∃ (k : Nat) (A : Option Addr) (c : Nat) (M : List TX), k ≤ n ∧ v8 = .int .i64 k ∧ v6 = .slice A M.length c ∧ Hid (RowT w2.heap.size wr A c M) ∧ Hid (linesT dir.data.toList ((L.take k).map wordsL) (.ok []) = .ok (tgsX M)) ∧ Hid (BdK k (tgsX M)) ∧ Below w2.heap.size w2 wr) (fun _ v8 _ => n - (intOf v8).toNat)
        case atStart => exact ⟨0, none, 0, [], Nat.zero_le _, rfl, rfl, RowT.nil _ _, rfl, ⟨Nat.le_refl _, fun x hx => by cases hx⟩, Below.refl _ _⟩
        case round =>
          obtain ⟨k, A, c, M, hk, rfl, rfl, HR, HLN, HBK, hbr⟩ := hrel
          have HBR := Lib.hid hbr
          clear hbr
          by_cases h1 : k < n
          · have k1 : (k : Int) < (n : Int) := by omega
            obtain ⟨p, hp⟩ : ∃ p, L[k]? = some p := ⟨_, List.getElem?_eq_getElem (by rw [HN.out]; exact h1)⟩
            have hpz := HPL.out p (List.mem_of_getElem? hp)
            rw [size_listT] at hpz
            have hstep := linesB_step hp HLN.out
            have c0 := CL.out wr HBR.out k p hp
            obtain ⟨x, hx⟩ : ∃ x, mkB p = x := ⟨_, rfl⟩
            rw [hx] at c0
            have hxd : x.data.toList = p := by rw [← hx, mkB_data]
            have hxs : x.size ≤ 16384 := by rw [← hx, mkB_size]; omega
            have HW := Lib.hid (refwords_any x wr (by omega))
            rw [hxd] at HW
            have hwz := words_len p
            obtain ⟨ws, hws⟩ : ∃ ws, wordsL p = ws := ⟨_, rfl⟩
            rw [hws] at HW hwz hstep
            have HST := Lib.hid hstep
            have HWZ := Lib.hid hwz
            clear hp hx hxd hws hstep hwz
            go_wp2_with fail
            refine HW.out.mono ?_
            rintro e w3 ⟨A3, c3, rfl, hst3, hcl3, hcm3, hb3⟩
            have HB3 := Lib.hid (HBR.out.trans (hb3.mono HBR.out.size))
            have HR3 := Lib.hid (HR.out.below hb3)
            have hs3 := hb3.size
            have hsz3 := HB3.out.size
            match ws, HW, HST, HWZ, hst3, hcl3 with
            | [], _, HST, _, _, _ =>
              clear c0 hb3
              go_wp2_with fail
              go_roundw
              case rel => exact ⟨k + 1, A, c, M, by omega, by go_num, rfl, HR3.out, HST.out, HBK.out.mono (by omega), HB3.out⟩
              case measure => simp [intOf]; omega
            | [a], _, HST, _, _, _ =>
              have hbad2 : parseB dir.data.toList s.data.toList = (11, []) := by
                rw [HP1.out, linesB_err (k := k + 1) (n := 11) HST.out]
              have HPV := Lib.hid hbad2
              clear c0 hb3 hbad2
              go_wp2_with fail
              go_ret2
              exact ⟨none, 0, [], by rw [HPV.out]; rfl, TgsAt.nil _ _ _ (Nat.zero_le _), by rw [HPV.out]; rfl, HB2.out.trans (HB3.out.mono HB2.out.size), fun _ => rfl, fun x hx => by cases hx⟩
            | a :: b :: d :: r, _, HST, _, _, _ =>
              have hbad2 : parseB dir.data.toList s.data.toList = (11, []) := by
                rw [HP1.out, linesB_err (k := k + 1) (n := 11) HST.out]
              have HPV := Lib.hid hbad2
              obtain ⟨m, hm⟩ : ∃ m, (a :: b :: d :: r).length = m := ⟨_, rfl⟩
              have hm3 : 3 ≤ m := by rw [← hm]; simp
              have m2 : ¬ (m : Int) = 2 := by omega
              have m0 : ¬ (m : Int) = 0 := by omega
              rw [hm]
              clear c0 hb3 hbad2 hm
              go_wp2_with fail
              go_ret2
              exact ⟨none, 0, [], by rw [HPV.out]; rfl, TgsAt.nil _ _ _ (Nat.zero_le _), by rw [HPV.out]; rfl, HB2.out.trans (HB3.out.mono HB2.out.size), fun _ => rfl, fun x hx => by cases hx⟩
            | [a, b], _, HST, HWZ, hst3, hcl3 =>
              obtain ⟨g2, o2, cur2, rfl, hgb2, hgc2, hgr2⟩ := hst3 (by simp)
              have hga := hgr2 0 a rfl
              have hgb := hgr2 1 b rfl
              obtain ⟨y0, hy0⟩ : ∃ y, mkB a = y := ⟨_, rfl⟩
              obtain ⟨y1, hy1⟩ : ∃ y, mkB b = y := ⟨_, rfl⟩
              have hq : ∀ W : World, W.heap[g2]? = some (.cells cur2 9 (0, 0)) → W.cell? ⟨g2, o2, none⟩ = some (.string y0) ∧ W.cell? ⟨g2, o2 + 1, none⟩ = some (.string y1) := fun W hW =>
                ⟨by rw [← hy0]; exact (cell_of_row W g2 _ _ _ _ hW).trans hga, by rw [← hy1]; exact (cell_of_row W g2 _ _ _ _ hW).trans hgb⟩
              have za : a.length ≤ 16384 := by have := HWZ.out a (by simp); omega
              have zb : b.length ≤ 16384 := by have := HWZ.out b (by simp); omega
              have hst2 : linesT dir.data.toList ((L.take (k + 1)).map wordsL) (.ok []) = actT dir.data.toList (tgsX M) y0.data.toList y1.data.toList := by
                rw [HST.out, lineT_two, ← hy0, ← hy1, mkB_data, mkB_data]
              have HBK2 := Lib.hid (fun l' (e : linesT dir.data.toList ((L.take (k + 1)).map wordsL) (.ok []) = .ok l') => HBK.out.line (HST.out.symm.trans e))
              have hbk := HBK.out
              have hml : M.length ≤ k := by have := hbk.1; rwa [tgsX_length] at this
              have hmx : ∀ x ∈ M, x.s.length ≤ 100000 ∧ x.d.length ≤ 100000 := fun x hx => by
                have := hbk.2 x.tg (List.mem_map_of_mem hx)
                have t1 : x.s.length ≤ k := this.1
                have t2 : x.d.length ≤ k := this.2
                omega
              have HLI := Lib.hid (brefline_any w2.heap.size M A c dir y1 y0 w3.drew (HR3.out.kept (Nat.le_refl _) fun _ _ _ ho => ho) hsz3 (by omega) hmx hd (by rw [← hy1, mkB_size]; omega))
              have hfar : ∀ x ∈ M, blkA x.A ≠ some g2 ∧ blkA x.B ≠ some g2 := fun x hx => ⟨fun e => by have := (HR.out.own x hx).lt g2 (.inl e); omega, fun e => by have := (HR.out.own x hx).lt g2 (.inr e); omega⟩
              have HKEEP := Lib.hid (fun (W : World) (hk : KeepL M w3.drew W) => hq W (hk g2 _ hgc2 hfar))
              obtain ⟨q0, q1⟩ := hq w3 hgc2
              have HST2 := Lib.hid hst2
              clear c0 hb3 hga hgb hq hbk hml hmx hfar hgr2 hst2 hy0 hy1 za zb hgb2 hgc2
              go_upto_region 14 with fail
              refine wp_region_held_drew (S := (fun w' => w'.cell? ⟨g2, o2, none⟩ = some (.string y0) ∧ w'.cell? ⟨g2, o2 + 1, none⟩ = some (.string y1))) (by kernel_rfl) ⟨q0, q1⟩ (fun hHeld => ?_)
              refine wpAnyH_take (i := 0) (v := ?vp0) rfl (by kernel_rfl) (by kernel_rfl) (by kernel_rfl) (fun _ _ _ h => h) (Or.inl ⟨by rfl, ?yp0⟩) (by assumption) ?rp0
              case yp0 =>
                intro w hSw
                (try dsimp only at hSw)
                go_simp
                first | done | with_reducible rfl
              try simp only [Act.put, List.getElem_toArray, List.getElem_cons_zero, List.setIfInBounds_toArray, List.set_cons_zero, List.set_cons_succ]
              refine wpAnyH_take (i := 1) (v := ?vp1) rfl (by kernel_rfl) (by kernel_rfl) (by kernel_rfl) (fun _ _ _ h => h) (Or.inl ⟨by rfl, ?yp1⟩) (by assumption) ?rp1
              case yp1 =>
                intro w hSw
                (try dsimp only at hSw)
                go_simp
                first | done | with_reducible rfl
              try simp only [Act.put, List.getElem_toArray, List.getElem_cons_zero, List.getElem_cons_succ, List.setIfInBounds_toArray, List.set_cons_zero, List.set_cons_succ]
              refine wpAnyH_take (i := 2) (v := ?vp2) rfl (by kernel_rfl) (by kernel_rfl) (by kernel_rfl) (fun _ _ _ h => h) (Or.inl ⟨by rfl, ?yp2⟩) (by assumption) ?rp2
              case yp2 =>
                intro w hSw
                (try dsimp only at hSw)
                go_simp
                first | done | with_reducible rfl
              try simp only [Act.put, List.getElem_toArray, List.getElem_cons_zero, List.getElem_cons_succ, List.setIfInBounds_toArray, List.set_cons_zero, List.set_cons_succ]
              refine wpAnyH_take (i := 3) (v := ?vp3) rfl (by kernel_rfl) (by kernel_rfl) (by kernel_rfl) (fun _ _ _ h => h) (Or.inl ⟨by rfl, ?yp3⟩) (by assumption) ?rp3
              case yp3 =>
                intro w hSw
                (try dsimp only at hSw)
                go_simp
                first | done | with_reducible rfl
              try simp only [Act.put, List.getElem_toArray, List.getElem_cons_zero, List.getElem_cons_succ, List.setIfInBounds_toArray, List.set_cons_zero, List.set_cons_succ]
              refine wpAnyH_take (i := 4) (v := ?vp4) rfl (by kernel_rfl) (by kernel_rfl) (by kernel_rfl) (fun _ _ _ h => h) (Or.inl ⟨by rfl, ?yp4⟩) (by assumption) ?rp4
              case yp4 =>
                intro w hSw
                (try dsimp only at hSw)
                go_simp
                first | done | with_reducible rfl
              try simp only [Act.put, List.getElem_toArray, List.getElem_cons_zero, List.getElem_cons_succ, List.setIfInBounds_toArray, List.set_cons_zero, List.set_cons_succ]
              refine wpAnyH_take (i := 5) (v := ?vp5) rfl (by kernel_rfl) (by kernel_rfl) (by kernel_rfl) (fun _ _ _ h => h) (Or.inl ⟨by rfl, ?yp5⟩) (by assumption) ?rp5
              case yp5 =>
                intro w hSw
                (try dsimp only at hSw)
                go_simp
                first | done | with_reducible rfl
              try simp only [Act.put, List.getElem_toArray, List.getElem_cons_zero, List.getElem_cons_succ, List.setIfInBounds_toArray, List.set_cons_zero, List.set_cons_succ]
              refine wpAnyH_take (i := 6) (v := ?vp6) rfl (by kernel_rfl) (by kernel_rfl) (by kernel_rfl) (fun _ _ _ h => h) (Or.inl ⟨by rfl, ?yp6⟩) (by assumption) ?rp6
              case yp6 =>
                intro w hSw
                (try dsimp only at hSw)
                go_simp
                first | done | with_reducible rfl
              try simp only [Act.put, List.getElem_toArray, List.getElem_cons_zero, List.getElem_cons_succ, List.setIfInBounds_toArray, List.set_cons_zero, List.set_cons_succ]
              refine wpAnyH_take (i := 7) (v := ?vp7) rfl (by kernel_rfl) (by kernel_rfl) (by kernel_rfl) (fun _ _ _ h => h) (Or.inl ⟨by rfl, ?yp7⟩) (by assumption) ?rp7
              case yp7 =>
                intro w hSw
                (try dsimp only at hSw)
                go_simp
                first | done | with_reducible rfl
              try simp only [Act.put, List.getElem_toArray, List.getElem_cons_zero, List.getElem_cons_succ, List.setIfInBounds_toArray, List.set_cons_zero, List.set_cons_succ]
              refine wpAnyH_ready (rs := [8]) (by kernel_rfl) (by simp) ?_
              refine AllReadyH.cons rfl (fun K hK => ?_) AllReadyH.nil
              go_simp
              refine HLI.out.mono ?_
              rintro e w5 hp5
              obtain ⟨n5, A5, c5, M5, rfl, h5⟩ := lineT_ends (by exact hsz3) hp5
              have hk5 : w5.cell? ⟨g2, o2, none⟩ = some (.string y0) ∧ w5.cell? ⟨g2, o2 + 1, none⟩ = some (.string y1) := HKEEP.out w5 h5.1.1
              have H5 := Lib.hid h5
              clear hp5 h5
              refine hK.out _ _ ⟨hk5.1, hk5.2⟩ (fun hHeld => ?_)
              clear hK K
              try simp only [Act.put, List.getElem_toArray, List.getElem_cons_zero, List.getElem_cons_succ, List.setIfInBounds_toArray, List.set_cons_zero, List.set_cons_succ]
              refine wpAnyH_take (i := 9) (v := ?vp9) rfl (by kernel_rfl) (by kernel_rfl) (by kernel_rfl) (fun _ _ _ h => h) (Or.inl ⟨by rfl, ?yp9⟩) (by assumption) ?rp9
              case yp9 =>
                intro w hSw
                (try dsimp only at hSw)
                go_simp
                first | done | with_reducible rfl
              try simp only [Act.put, List.getElem_toArray, List.getElem_cons_zero, List.getElem_cons_succ, List.setIfInBounds_toArray, List.set_cons_zero, List.set_cons_succ]
              refine wpAnyH_take (i := 10) (v := ?vp10) rfl (by kernel_rfl) (by kernel_rfl) (by kernel_rfl) (fun _ _ _ h => h) (Or.inl ⟨by rfl, ?yp10⟩) (by assumption) ?rp10
              case yp10 =>
                intro w hSw
                (try dsimp only at hSw)
                go_simp
                first | done | with_reducible rfl
              try simp only [Act.put, List.getElem_toArray, List.getElem_cons_zero, List.getElem_cons_succ, List.setIfInBounds_toArray, List.set_cons_zero, List.set_cons_succ]
              refine wpAnyH_take (i := 11) (v := ?vp11) rfl (by kernel_rfl) (by kernel_rfl) (by kernel_rfl) (fun _ _ _ h => h) (Or.inl ⟨by rfl, ?yp11⟩) (by assumption) ?rp11
              case yp11 =>
                intro w hSw
                (try dsimp only at hSw)
                go_simp
                first | done | with_reducible rfl
              try simp only [Act.put, List.getElem_toArray, List.getElem_cons_zero, List.getElem_cons_succ, List.setIfInBounds_toArray, List.set_cons_zero, List.set_cons_succ]
              refine wpAnyH_take (i := 12) (v := ?vp12) rfl (by kernel_rfl) (by kernel_rfl) (by kernel_rfl) (fun _ _ _ h => h) (Or.inl ⟨by rfl, ?yp12⟩) (by assumption) ?rp12
              case yp12 =>
                intro w hSw
                (try dsimp only at hSw)
                go_simp
                first | done | with_reducible rfl
              try simp only [Act.put, List.getElem_toArray, List.getElem_cons_zero, List.getElem_cons_succ, List.setIfInBounds_toArray, List.set_cons_zero, List.set_cons_succ]
              refine wpAnyH_take (i := 13) (v := ?vp13) rfl (by kernel_rfl) (by kernel_rfl) (by kernel_rfl) (fun _ _ _ h => h) (Or.inl ⟨by rfl, ?yp13⟩) (by assumption) ?rp13
              case yp13 =>
                intro w hSw
                (try dsimp only at hSw)
                go_simp
                first | done | with_reducible rfl
              try simp only [Act.put, List.getElem_toArray, List.getElem_cons_zero, List.getElem_cons_succ, List.setIfInBounds_toArray, List.set_cons_zero, List.set_cons_succ]
              refine wpAnyH_done (by kernel_rfl) ?_ _
              rcases H5.out.2 with ⟨hn5, hr5⟩ | ⟨rfl, hr5, hR5⟩
              · have hbad2 : parseB dir.data.toList s.data.toList = (n5, []) := by
                  rw [HP1.out, linesB_err (k := k + 1) (n := n5) (HST2.out.trans hr5)]
                have HPV := Lib.hid hbad2
                have HB5 := Lib.hid (HB3.out.drew.trans (H5.out.1.2.mono (Nat.le_refl _)))
                have hne5 : (n5 != 0) = true := by simpa using hn5
                clear hbad2 hr5 hn5
                go_wp2_with fail
                go_ret2
                exact ⟨none, 0, [], by rw [HPV.out]; rfl, TgsAt.nil _ _ _ (Nat.zero_le _), by rw [HPV.out]; rfl, HB2.out.trans (HB5.out.mono HB2.out.size), fun _ => rfl, fun x hx => by cases hx⟩
              · have HR5 := Lib.hid hR5
                have HE5 := Lib.hid (HST2.out.trans hr5)
                have HB5 := Lib.hid (HB3.out.drew.trans (H5.out.1.2.mono (Nat.le_refl _)))
                clear hr5 hR5
                go_wp2_with fail
                go_roundw
                case rel => exact ⟨k + 1, A5, c5, M5, by omega, by go_num, rfl, HR5.out, HE5.out, HBK2.out _ HE5.out, HB5.out⟩
                case measure => simp [intOf]; omega
          · obtain rfl : k = n := by omega
            have hfin : linesT dir.data.toList (L.map wordsL) (.ok []) = .ok (tgsX M) := by
              have := HLN.out
              rwa [List.take_of_length_le (by rw [HN.out]; exact Nat.le_refl _)] at this
            have HPV := Lib.hid (show parseB dir.data.toList s.data.toList = (0, tgsX M) by rw [HP1.out, hfin])
            clear hfin
            go_wp2_with fail
            go_ret2
            exact ⟨A, c, M, by rw [HPV.out]; rfl, HR.out.at_, by rw [HPV.out], HB2.out.trans (HBR.out.mono HB2.out.size), fun e => by obtain ⟨A9, c9, e9, h9, -⟩ := own_slice HR.out.row; cases e9; exact h9 e, fun x hx => (HR.out.own x hx).lower HB2.out.size⟩

    · have g1 : dir.toList.isEmpty = false := by rw [ByteArray.toList_eq]; cases h : dir.data.toList with | nil => exact absurd h hde | cons _ _ => rfl
      have g2 : (!dir.toList.isEmpty) = true := by rw [g1]; rfl
      have hr : rightB dir.data.toList = true := by
        cases h : rightB dir.data.toList with
        | true => rfl
        | false =>
          refine absurd ?_ hbad
          rw [h]
          cases h2 : dir.data.toList with
          | nil => exact absurd h2 hde
          | cons _ _ => rfl
      rw [hr] at HRD
      clear hbad hde hr
      go_enter Tryd.func29, Tryd.ntmps29
      go_wp2_with fail
      refine HRD.out.mono ?_
      rintro e w1 ⟨rfl, hb1⟩
      have HB1 := Lib.hid hb1
      clear hb1
      go_upto_region 3 with fail
      by_cases hbig : 16384 < s.size
      · have HPV := Lib.hid (HP0.out.trans (if_pos hbig))
        have b1 : (16384 : Int) < (s.size : Int) := by omega
        go_wp2_with fail
        go_ret2
        exact ⟨none, 0, [], by rw [HPV.out]; rfl, TgsAt.nil _ _ _ (Nat.zero_le _), by rw [HPV.out]; rfl, HB1.out, fun _ => rfl, fun x hx => by cases hx⟩
      · have b1 : ¬ (16384 : Int) < (s.size : Int) := by omega
        have HP1 := Lib.hid (HP0.out.trans (if_neg hbig))
        have HSP := Lib.hid (refsplit_any s 10 w1 (by omega))
        have hll := splitL_length 10 s.data.toList
        have hpl := splitB_len 10 s.data.toList
        rw [size_listT] at hll
        obtain ⟨L, hL⟩ : ∃ L, splitL 10 s.data.toList = L := ⟨_, rfl⟩
        rw [hL] at HSP hll hpl HP1
        have hL0 : 0 < L.length := by rw [← hL]; exact List.length_pos_iff.2 (splitL_ne 10 _)
        have HPL := Lib.hid hpl
        clear hL hpl hbig
        go_wp2_with fail
        refine HSP.out.mono ?_
        rintro e w2 ⟨v1, rfl, ho1, hb2⟩
        obtain ⟨g, cap, rfl, hr1, hg1, hg2⟩ := names_row ho1 (by omega)
        obtain ⟨n, hn⟩ : ∃ n, L.length = n := ⟨_, rfl⟩
        rw [hn] at hll hL0 ⊢
        have hgl : g < w2.heap.size := (World.ownsRow.lt ho1 g rfl).2
        have CL := Lib.hid (fun (W : World) (hb : Below w2.heap.size w2 W) (i : Nat) (p : Bs) (hp : L[i]? = some p) => show W.cell? ⟨g, i, none⟩ = some (.string (mkB p)) by
          exact (hb.cell (p := ⟨g, i, none⟩) hgl).trans (strs_cellB ho1 i p hp))
        have HN := Lib.hid hn
        have HB2 := Lib.hid (HB1.out.trans (hb2.mono HB1.out.size))
        clear hr1 ho1 hn hb2 hg1 hg2
        go_wp2_with fail
        go_loopw [6, 8] (fun v6 v8 wr => ∃ (k : Nat) (A : Option Addr) (c : Nat) (M : List TX), k ≤ n ∧ v8 = .int .i64 k ∧ v6 = .slice A M.length c ∧ Hid (RowT w2.heap.size wr A c M) ∧ Hid (linesT dir.data.toList ((L.take k).map wordsL) (.ok []) = .ok (tgsX M)) ∧ Hid (BdK k (tgsX M)) ∧ Below w2.heap.size w2 wr) (fun _ v8 _ => n - (intOf v8).toNat)
        case atStart => exact ⟨0, none, 0, [], Nat.zero_le _, rfl, rfl, RowT.nil _ _, rfl, ⟨Nat.le_refl _, fun x hx => by cases hx⟩, Below.refl _ _⟩
        case round =>
          obtain ⟨k, A, c, M, hk, rfl, rfl, HR, HLN, HBK, hbr⟩ := hrel
          have HBR := Lib.hid hbr
          clear hbr
          by_cases h1 : k < n
          · have k1 : (k : Int) < (n : Int) := by omega
            obtain ⟨p, hp⟩ : ∃ p, L[k]? = some p := ⟨_, List.getElem?_eq_getElem (by rw [HN.out]; exact h1)⟩
            have hpz := HPL.out p (List.mem_of_getElem? hp)
            rw [size_listT] at hpz
            have hstep := linesB_step hp HLN.out
            have c0 := CL.out wr HBR.out k p hp
            obtain ⟨x, hx⟩ : ∃ x, mkB p = x := ⟨_, rfl⟩
            rw [hx] at c0
            have hxd : x.data.toList = p := by rw [← hx, mkB_data]
            have hxs : x.size ≤ 16384 := by rw [← hx, mkB_size]; omega
            have HW := Lib.hid (refwords_any x wr (by omega))
            rw [hxd] at HW
            have hwz := words_len p
            obtain ⟨ws, hws⟩ : ∃ ws, wordsL p = ws := ⟨_, rfl⟩
            rw [hws] at HW hwz hstep
            have HST := Lib.hid hstep
            have HWZ := Lib.hid hwz
            clear hp hx hxd hws hstep hwz
            go_wp2_with fail
            refine HW.out.mono ?_
            rintro e w3 ⟨A3, c3, rfl, hst3, hcl3, hcm3, hb3⟩
            have HB3 := Lib.hid (HBR.out.trans (hb3.mono HBR.out.size))
            have HR3 := Lib.hid (HR.out.below hb3)
            have hs3 := hb3.size
            have hsz3 := HB3.out.size
            match ws, HW, HST, HWZ, hst3, hcl3 with
            | [], _, HST, _, _, _ =>
              clear c0 hb3
              go_wp2_with fail
              go_roundw
              case rel => exact ⟨k + 1, A, c, M, by omega, by go_num, rfl, HR3.out, HST.out, HBK.out.mono (by omega), HB3.out⟩
              case measure => simp [intOf]; omega
            | [a], _, HST, _, _, _ =>
              have hbad2 : parseB dir.data.toList s.data.toList = (11, []) := by
                rw [HP1.out, linesB_err (k := k + 1) (n := 11) HST.out]
              have HPV := Lib.hid hbad2
              clear c0 hb3 hbad2
              go_wp2_with fail
              go_ret2
              exact ⟨none, 0, [], by rw [HPV.out]; rfl, TgsAt.nil _ _ _ (Nat.zero_le _), by rw [HPV.out]; rfl, HB2.out.trans (HB3.out.mono HB2.out.size), fun _ => rfl, fun x hx => by cases hx⟩
            | a :: b :: d :: r, _, HST, _, _, _ =>
              have hbad2 : parseB dir.data.toList s.data.toList = (11, []) := by
                rw [HP1.out, linesB_err (k := k + 1) (n := 11) HST.out]
              have HPV := Lib.hid hbad2
              obtain ⟨m, hm⟩ : ∃ m, (a :: b :: d :: r).length = m := ⟨_, rfl⟩
              have hm3 : 3 ≤ m := by rw [← hm]; simp
              have m2 : ¬ (m : Int) = 2 := by omega
              have m0 : ¬ (m : Int) = 0 := by omega
              rw [hm]
              clear c0 hb3 hbad2 hm
              go_wp2_with fail
              go_ret2
              exact ⟨none, 0, [], by rw [HPV.out]; rfl, TgsAt.nil _ _ _ (Nat.zero_le _), by rw [HPV.out]; rfl, HB2.out.trans (HB3.out.mono HB2.out.size), fun _ => rfl, fun x hx => by cases hx⟩
            | [a, b], _, HST, HWZ, hst3, hcl3 =>
              obtain ⟨g2, o2, cur2, rfl, hgb2, hgc2, hgr2⟩ := hst3 (by simp)
              have hga := hgr2 0 a rfl
              have hgb := hgr2 1 b rfl
              obtain ⟨y0, hy0⟩ : ∃ y, mkB a = y := ⟨_, rfl⟩
              obtain ⟨y1, hy1⟩ : ∃ y, mkB b = y := ⟨_, rfl⟩
              have hq : ∀ W : World, W.heap[g2]? = some (.cells cur2 9 (0, 0)) → W.cell? ⟨g2, o2, none⟩ = some (.string y0) ∧ W.cell? ⟨g2, o2 + 1, none⟩ = some (.string y1) := fun W hW =>
                ⟨by rw [← hy0]; exact (cell_of_row W g2 _ _ _ _ hW).trans hga, by rw [← hy1]; exact (cell_of_row W g2 _ _ _ _ hW).trans hgb⟩
              have za : a.length ≤ 16384 := by have := HWZ.out a (by simp); omega
              have zb : b.length ≤ 16384 := by have := HWZ.out b (by simp); omega
              have hst2 : linesT dir.data.toList ((L.take (k + 1)).map wordsL) (.ok []) = actT dir.data.toList (tgsX M) y0.data.toList y1.data.toList := by
                rw [HST.out, lineT_two, ← hy0, ← hy1, mkB_data, mkB_data]
              have HBK2 := Lib.hid (fun l' (e : linesT dir.data.toList ((L.take (k + 1)).map wordsL) (.ok []) = .ok l') => HBK.out.line (HST.out.symm.trans e))
              have hbk := HBK.out
              have hml : M.length ≤ k := by have := hbk.1; rwa [tgsX_length] at this
              have hmx : ∀ x ∈ M, x.s.length ≤ 100000 ∧ x.d.length ≤ 100000 := fun x hx => by
                have := hbk.2 x.tg (List.mem_map_of_mem hx)
                have t1 : x.s.length ≤ k := this.1
                have t2 : x.d.length ≤ k := this.2
                omega
              have HLI := Lib.hid (brefline_any w2.heap.size M A c dir y1 y0 w3.drew (HR3.out.kept (Nat.le_refl _) fun _ _ _ ho => ho) hsz3 (by omega) hmx hd (by rw [← hy1, mkB_size]; omega))
              have hfar : ∀ x ∈ M, blkA x.A ≠ some g2 ∧ blkA x.B ≠ some g2 := fun x hx => ⟨fun e => by have := (HR.out.own x hx).lt g2 (.inl e); omega, fun e => by have := (HR.out.own x hx).lt g2 (.inr e); omega⟩
              have HKEEP := Lib.hid (fun (W : World) (hk : KeepL M w3.drew W) => hq W (hk g2 _ hgc2 hfar))
              obtain ⟨q0, q1⟩ := hq w3 hgc2
              have HST2 := Lib.hid hst2
              clear c0 hb3 hga hgb hq hbk hml hmx hfar hgr2 hst2 hy0 hy1 za zb hgb2 hgc2
              go_upto_region 14 with fail
              refine wp_region_held_drew (S := (fun w' => w'.cell? ⟨g2, o2, none⟩ = some (.string y0) ∧ w'.cell? ⟨g2, o2 + 1, none⟩ = some (.string y1))) (by kernel_rfl) ⟨q0, q1⟩ (fun hHeld => ?_)
              refine wpAnyH_take (i := 0) (v := ?vq0) rfl (by kernel_rfl) (by kernel_rfl) (by kernel_rfl) (fun _ _ _ h => h) (Or.inl ⟨by rfl, ?yq0⟩) (by assumption) ?rq0
              case yq0 =>
                intro w hSw
                (try dsimp only at hSw)
                go_simp
                first | done | with_reducible rfl
              try simp only [Act.put, List.getElem_toArray, List.getElem_cons_zero, List.setIfInBounds_toArray, List.set_cons_zero, List.set_cons_succ]
              refine wpAnyH_take (i := 1) (v := ?vq1) rfl (by kernel_rfl) (by kernel_rfl) (by kernel_rfl) (fun _ _ _ h => h) (Or.inl ⟨by rfl, ?yq1⟩) (by assumption) ?rq1
              case yq1 =>
                intro w hSw
                (try dsimp only at hSw)
                go_simp
                first | done | with_reducible rfl
              try simp only [Act.put, List.getElem_toArray, List.getElem_cons_zero, List.getElem_cons_succ, List.setIfInBounds_toArray, List.set_cons_zero, List.set_cons_succ]
              refine wpAnyH_take (i := 2) (v := ?vq2) rfl (by kernel_rfl) (by kernel_rfl) (by kernel_rfl) (fun _ _ _ h => h) (Or.inl ⟨by rfl, ?yq2⟩) (by assumption) ?rq2
              case yq2 =>
                intro w hSw
                (try dsimp only at hSw)
                go_simp
                first | done | with_reducible rfl
              try simp only [Act.put, List.getElem_toArray, List.getElem_cons_zero, List.getElem_cons_succ, List.setIfInBounds_toArray, List.set_cons_zero, List.set_cons_succ]
              refine wpAnyH_take (i := 3) (v := ?vq3) rfl (by kernel_rfl) (by kernel_rfl) (by kernel_rfl) (fun _ _ _ h => h) (Or.inl ⟨by rfl, ?yq3⟩) (by assumption) ?rq3
              case yq3 =>
                intro w hSw
                (try dsimp only at hSw)
                go_simp
                first | done | with_reducible rfl
              try simp only [Act.put, List.getElem_toArray, List.getElem_cons_zero, List.getElem_cons_succ, List.setIfInBounds_toArray, List.set_cons_zero, List.set_cons_succ]
              refine wpAnyH_take (i := 4) (v := ?vq4) rfl (by kernel_rfl) (by kernel_rfl) (by kernel_rfl) (fun _ _ _ h => h) (Or.inl ⟨by rfl, ?yq4⟩) (by assumption) ?rq4
              case yq4 =>
                intro w hSw
                (try dsimp only at hSw)
                go_simp
                first | done | with_reducible rfl
              try simp only [Act.put, List.getElem_toArray, List.getElem_cons_zero, List.getElem_cons_succ, List.setIfInBounds_toArray, List.set_cons_zero, List.set_cons_succ]
              refine wpAnyH_take (i := 5) (v := ?vq5) rfl (by kernel_rfl) (by kernel_rfl) (by kernel_rfl) (fun _ _ _ h => h) (Or.inl ⟨by rfl, ?yq5⟩) (by assumption) ?rq5
              case yq5 =>
                intro w hSw
                (try dsimp only at hSw)
                go_simp
                first | done | with_reducible rfl
              try simp only [Act.put, List.getElem_toArray, List.getElem_cons_zero, List.getElem_cons_succ, List.setIfInBounds_toArray, List.set_cons_zero, List.set_cons_succ]
              refine wpAnyH_take (i := 6) (v := ?vq6) rfl (by kernel_rfl) (by kernel_rfl) (by kernel_rfl) (fun _ _ _ h => h) (Or.inl ⟨by rfl, ?yq6⟩) (by assumption) ?rq6
              case yq6 =>
                intro w hSw
                (try dsimp only at hSw)
                go_simp
                first | done | with_reducible rfl
              try simp only [Act.put, List.getElem_toArray, List.getElem_cons_zero, List.getElem_cons_succ, List.setIfInBounds_toArray, List.set_cons_zero, List.set_cons_succ]
              refine wpAnyH_take (i := 7) (v := ?vq7) rfl (by kernel_rfl) (by kernel_rfl) (by kernel_rfl) (fun _ _ _ h => h) (Or.inl ⟨by rfl, ?yq7⟩) (by assumption) ?rq7
              case yq7 =>
                intro w hSw
                (try dsimp only at hSw)
                go_simp
                first | done | with_reducible rfl
              try simp only [Act.put, List.getElem_toArray, List.getElem_cons_zero, List.getElem_cons_succ, List.setIfInBounds_toArray, List.set_cons_zero, List.set_cons_succ]
              refine wpAnyH_ready (rs := [8]) (by kernel_rfl) (by simp) ?_
              refine AllReadyH.cons rfl (fun K hK => ?_) AllReadyH.nil
              go_simp
              refine HLI.out.mono ?_
              rintro e w5 hp5
              obtain ⟨n5, A5, c5, M5, rfl, h5⟩ := lineT_ends (by exact hsz3) hp5
              have hk5 : w5.cell? ⟨g2, o2, none⟩ = some (.string y0) ∧ w5.cell? ⟨g2, o2 + 1, none⟩ = some (.string y1) := HKEEP.out w5 h5.1.1
              have H5 := Lib.hid h5
              clear hp5 h5
              refine hK.out _ _ ⟨hk5.1, hk5.2⟩ (fun hHeld => ?_)
              clear hK K
              try simp only [Act.put, List.getElem_toArray, List.getElem_cons_zero, List.getElem_cons_succ, List.setIfInBounds_toArray, List.set_cons_zero, List.set_cons_succ]
              refine wpAnyH_take (i := 9) (v := ?vq9) rfl (by kernel_rfl) (by kernel_rfl) (by kernel_rfl) (fun _ _ _ h => h) (Or.inl ⟨by rfl, ?yq9⟩) (by assumption) ?rq9
              case yq9 =>
                intro w hSw
                (try dsimp only at hSw)
                go_simp
                first | done | with_reducible rfl
              try simp only [Act.put, List.getElem_toArray, List.getElem_cons_zero, List.getElem_cons_succ, List.setIfInBounds_toArray, List.set_cons_zero, List.set_cons_succ]
              refine wpAnyH_take (i := 10) (v := ?vq10) rfl (by kernel_rfl) (by kernel_rfl) (by kernel_rfl) (fun _ _ _ h => h) (Or.inl ⟨by rfl, ?yq10⟩) (by assumption) ?rq10
              case yq10 =>
                intro w hSw
                (try dsimp only at hSw)
                go_simp
                first | done | with_reducible rfl
              try simp only [Act.put, List.getElem_toArray, List.getElem_cons_zero, List.getElem_cons_succ, List.setIfInBounds_toArray, List.set_cons_zero, List.set_cons_succ]
              refine wpAnyH_take (i := 11) (v := ?vq11) rfl (by kernel_rfl) (by kernel_rfl) (by kernel_rfl) (fun _ _ _ h => h) (Or.inl ⟨by rfl, ?yq11⟩) (by assumption) ?rq11
              case yq11 =>
                intro w hSw
                (try dsimp only at hSw)
                go_simp
                first | done | with_reducible rfl
              try simp only [Act.put, List.getElem_toArray, List.getElem_cons_zero, List.getElem_cons_succ, List.setIfInBounds_toArray, List.set_cons_zero, List.set_cons_succ]
              refine wpAnyH_take (i := 12) (v := ?vq12) rfl (by kernel_rfl) (by kernel_rfl) (by kernel_rfl) (fun _ _ _ h => h) (Or.inl ⟨by rfl, ?yq12⟩) (by assumption) ?rq12
              case yq12 =>
                intro w hSw
                (try dsimp only at hSw)
                go_simp
                first | done | with_reducible rfl
              try simp only [Act.put, List.getElem_toArray, List.getElem_cons_zero, List.getElem_cons_succ, List.setIfInBounds_toArray, List.set_cons_zero, List.set_cons_succ]
              refine wpAnyH_take (i := 13) (v := ?vq13) rfl (by kernel_rfl) (by kernel_rfl) (by kernel_rfl) (fun _ _ _ h => h) (Or.inl ⟨by rfl, ?yq13⟩) (by assumption) ?rq13
              case yq13 =>
                intro w hSw
                (try dsimp only at hSw)
                go_simp
                first | done | with_reducible rfl
              try simp only [Act.put, List.getElem_toArray, List.getElem_cons_zero, List.getElem_cons_succ, List.setIfInBounds_toArray, List.set_cons_zero, List.set_cons_succ]
              refine wpAnyH_done (by kernel_rfl) ?_ _
              rcases H5.out.2 with ⟨hn5, hr5⟩ | ⟨rfl, hr5, hR5⟩
              · have hbad2 : parseB dir.data.toList s.data.toList = (n5, []) := by
                  rw [HP1.out, linesB_err (k := k + 1) (n := n5) (HST2.out.trans hr5)]
                have HPV := Lib.hid hbad2
                have HB5 := Lib.hid (HB3.out.drew.trans (H5.out.1.2.mono (Nat.le_refl _)))
                have hne5 : (n5 != 0) = true := by simpa using hn5
                clear hbad2 hr5 hn5
                go_wp2_with fail
                go_ret2
                exact ⟨none, 0, [], by rw [HPV.out]; rfl, TgsAt.nil _ _ _ (Nat.zero_le _), by rw [HPV.out]; rfl, HB2.out.trans (HB5.out.mono HB2.out.size), fun _ => rfl, fun x hx => by cases hx⟩
              · have HR5 := Lib.hid hR5
                have HE5 := Lib.hid (HST2.out.trans hr5)
                have HB5 := Lib.hid (HB3.out.drew.trans (H5.out.1.2.mono (Nat.le_refl _)))
                clear hr5 hR5
                go_wp2_with fail
                go_roundw
                case rel => exact ⟨k + 1, A5, c5, M5, by omega, by go_num, rfl, HR5.out, HE5.out, HBK2.out _ HE5.out, HB5.out⟩
                case measure => simp [intOf]; omega
          · obtain rfl : k = n := by omega
            have hfin : linesT dir.data.toList (L.map wordsL) (.ok []) = .ok (tgsX M) := by
              have := HLN.out
              rwa [List.take_of_length_le (by rw [HN.out]; exact Nat.le_refl _)] at this
            have HPV := Lib.hid (show parseB dir.data.toList s.data.toList = (0, tgsX M) by rw [HP1.out, hfin])
            clear hfin
            go_wp2_with fail
            go_ret2
            exact ⟨A, c, M, by rw [HPV.out]; rfl, HR.out.at_, by rw [HPV.out], HB2.out.trans (HBR.out.mono HB2.out.size), fun e => by obtain ⟨A9, c9, e9, h9, -⟩ := own_slice HR.out.row; cases e9; exact h9 e, fun x hx => (HR.out.own x hx).lower HB2.out.size⟩

end Go.Proofs.YtckpojkbcbogbaaDoor
