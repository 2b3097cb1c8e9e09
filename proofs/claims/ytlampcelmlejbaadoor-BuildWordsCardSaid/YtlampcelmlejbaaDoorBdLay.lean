/-
  What the acts of the reader store: a file; what is stood on. (gen_bdlay.py)
-/
import Derived.Test.YtlampcelmlejbaaDoorBdReader
namespace Go.Proofs.YtlampcelmlejbaaDoor
open Go Go.RowKit Go.Shelf Go.Proofs

theorem strVs_oneB (l : List Bs) (p : Bs) : strVs (l ++ [p]) = strVs l ++ [.string (mkB p)] := by simp [strVs, strV]
/-- A block that has targets is none of texts. -/
theorem no_textB {base : Nat} {W : World} {A : Option Addr} {n c g : Nat} {xs : List Value} {q : Array Value} {fr : Nat × Nat} (h : W.ownsRow base 9 1 (.slice A n c) n xs) (hg : W.heap[g]? = some (.cells q 37 fr)) : blkA A ≠ some g := fun e => by
  obtain ⟨_, cur, hc⟩ := row_ge h ((own_blk _ _ _).trans e)
  rw [hg] at hc; cases hc

theorem RdO.laySrc {base R m : Nat} {dir : ByteArray} {M : List TX} {x : TX} {K : List Bs} {W W3 : World} {g c c' : Nat} {A' : Option Addr} {p : Bs} {o : Obj} (h : RdO base R m dir (M ++ [x]) K W) (hRb : R < base) (hmb : m < base)
    (h1 : W.heap[R]? = some (.cells #[.pointer (some ⟨g, M.length * 3, none⟩), .string dir, .slice (some ⟨g, 0, none⟩) (M.length + 1) c, .map (some m)] 70 (0, 0)))
    (h2 : W.ownsRow base 37 3 (.slice (some ⟨g, 0, none⟩) (M.length + 1) c) (M.length + 1) (gcells (M ++ [x])))
    (hg : (W.alloc o).grownBy W3 (blkA x.A)) (hv : W3.ownsRow base 9 1 (.slice A' (x.s.length + 1) c') (x.s.length + 1) (strVs (x.s ++ [p])))
    (hl : blkA x.A = blkA A' ∨ blkA A' = some (W.heap.size + 1)) :
    RdO base R m dir (M ++ [{ x with A := A', c := c', s := x.s ++ [p] }]) K (W3.setCell ⟨g, M.length * 3 + 1, none⟩ (.slice A' (x.s.length + 1) c')) ∧ TurnR base R m W (W3.setCell ⟨g, M.length * 3 + 1, none⟩ (.slice A' (x.s.length + 1) c')) := by
  obtain ⟨hL, hap⟩ := h.last M x rfl
  obtain ⟨hgb, cur, hgc⟩ := row_ge h2 (g := g) rfl
  obtain ⟨W4, hW4⟩ : ∃ W4, W3.setCell ⟨g, M.length * 3 + 1, none⟩ (.slice A' (x.s.length + 1) c') = W4 := ⟨_, rfl⟩
  obtain ⟨y, hy⟩ : ∃ y : TX, ({ x with A := A', c := c', s := x.s ++ [p] } : TX) = y := ⟨_, rfl⟩
  have hlt : ∀ (j : Nat) (o' : Obj), W.heap[j]? = some o' → j < W.heap.size := fun j o' hj => (Array.getElem?_eq_some_iff.1 hj).1
  have hxg : blkA x.A ≠ some g := no_textB hL.s hgc
  have keep3 : ∀ (j : Nat) (o' : Obj), W.heap[j]? = some o' → blkA x.A ≠ some j → W3.heap[j]? = some o' := fun j o' hj hn =>
    (hg.block j (by rw [World.size_alloc]; have := hlt j o' hj; omega) (fun e => hn e.symm)).trans ((Below.heap_alloc _ _ _ (hlt j o' hj)).trans hj)
  have other4 : ∀ j, j ≠ g → W4.heap[j]? = W3.heap[j]? := fun j hj => by rw [← hW4]; exact heap_setCell_other W3 ⟨g, M.length * 3 + 1, none⟩ j _ hj
  have keep4 : ∀ (j : Nat) (o' : Obj), W.heap[j]? = some o' → blkA x.A ≠ some j → j ≠ g → W4.heap[j]? = some o' := fun j o' hj hn hng => (other4 j hng).trans (keep3 j o' hj hn)
  have hbx : ∀ j, blkA x.A = some j → base ≤ j ∧ ∃ cur, W.heap[j]? = some (.cells cur 9 (0, 0)) := fun j hj => row_ge hL.s ((own_blk _ _ _).trans hj)
  have hsz3 : W.heap.size ≤ W3.heap.size := by have := hg.size; rw [World.size_alloc] at this; omega
  have hsz4 : W.heap.size ≤ W4.heap.size := by rw [← hW4]; simpa [World.setCell] using hsz3
  have r3 : W3.ownsRow base 37 3 (.slice (some ⟨g, 0, none⟩) (M.length + 1) c) (M.length + 1) (gcells (M ++ [x])) := ownsRow_keepA h2 fun j o' _ hj ho => keep3 j o' ho (fun e => by
    simp only [Value.ownBlock, Option.some.injEq] at hj
    subst hj
    exact hxg e)
  have r4 : W4.ownsRow base 37 3 (.slice (some ⟨g, 0, none⟩) (M.length + 1) c) (M.length + 1) (gcells (M ++ [y])) := by
    have := (r3.stored (M.length * 3 + 1) (.slice A' (x.s.length + 1) c')).1
    rwa [gcells_set M x y 1 _ (by rw [← hy]; simp [TX.cs]), hW4] at this
  have hln : (M ++ [y]).length = M.length + 1 := by simp
  have hgA' : blkA A' ≠ some g := fun e => by
    rcases hl with hl | hl
    · exact hxg (hl.trans e)
    · have e2 := hl.symm.trans e
      simp only [Option.some.injEq] at e2
      have := hlt g _ hgc
      omega
  have hlen : (x.s ++ [p]).length = x.s.length + 1 := by simp
  have v4 : W4.ownsRow base 9 1 (.slice A' (x.s ++ [p]).length c') (x.s ++ [p]).length (strVs (x.s ++ [p])) := by
    rw [hlen]
    exact ownsRow_keepA hv fun j o' _ hj ho => (other4 j (fun e => by rw [own_blk] at hj; exact hgA' (by rw [hj, e]))).trans ho
  have hne : ∀ j, blkA x.B = some j → blkA x.A ≠ some j := fun j hj e => hL.ne j e hj
  have hgB : blkA x.B ≠ some g := no_textB hL.d hgc
  have d4 : W4.ownsRow base 9 1 (.slice x.B x.d.length x.b) x.d.length (strVs x.d) := ownsRow_keepA hL.d fun j o' _ hj ho => by
    rw [own_blk] at hj
    exact keep4 j o' ho (hne j hj) (fun e => hgB (by rw [hj, e]))
  have hBs : ∀ j, blkA x.B = some j → j < W.heap.size := fun j hj => by
    obtain ⟨_, cur', hc'⟩ := row_ge hL.d ((own_blk _ _ _).trans hj)
    exact hlt j _ hc'
  have hne4 : ∀ j, blkA A' = some j → blkA x.B ≠ some j := fun j hj hB => by
    rcases hl with hl | hl
    · exact hne j hB (hl.trans hj)
    · have e2 := hl.symm.trans hj
      simp only [Option.some.injEq] at e2
      have := hBs j hB
      omega
  have hL4 : TgL base W4 y := by rw [← hy]; exact ⟨v4, d4, hne4⟩
  have htg : ∀ z ∈ M, TgT base W4 z := fun z hz => (h.own z (by simp [hz])).keep hsz4 fun j cur' _ hj ho => keep4 j _ ho (fun e => by
    have := hap z hz j (.inl e)
    rcases hj with hj | hj
    · exact this.1 hj
    · exact this.2 hj) (fun e => by
    subst e
    rw [hgc] at ho; cases ho)
  rw [hW4, hy]
  refine ⟨⟨⟨some ⟨g, 0, none⟩, c, ?_, ?_⟩, fun z hz => ?_, fun M' z e => ?_, h.names.keep fun o' ho => ?_⟩, ?_⟩
  · rw [hln, show endA (some ⟨g, 0, none⟩) (M.length + 1) = some ⟨g, M.length * 3, none⟩ from by simp [endA]]
    exact keep4 R _ h1 (fun e => by have := (hbx R e).1; omega) (by omega)
  · rw [hln]; exact r4
  · rcases List.mem_append.1 hz with hz | hz
    · exact htg z hz
    · simp only [List.mem_singleton] at hz; subst hz
      exact hL4.ro
  · obtain ⟨rfl, e2⟩ := List.append_inj' e rfl
    simp only [List.cons.injEq, and_true] at e2
    subst e2
    refine ⟨hL4, fun z hz j hj => ?_⟩
    have hzl := (h.own z (by simp [hz])).lt j
    rw [← hy] at hj
    rcases hj with hj | hj
    · (rcases hl with hl | hl
       · exact hap z hz j (.inl (hl.trans hj))
       · have e2 := hl.symm.trans hj
         simp only [Option.some.injEq] at e2
         exact ⟨fun e => by have := hzl (.inl e); omega, fun e => by have := hzl (.inr e); omega⟩)
    · exact hap z hz j (.inr hj)
  · exact keep4 m o' ho (fun e => by have := (hbx m e).1; omega) (by omega)
  · refine ⟨by rw [← hW4]; exact hg.os, by rw [← hW4]; exact hg.tape, by rw [← hW4]; exact hg.output, hsz4, fun j hj hs _ _ => ?_, fun j o' hj _ _ ht hs => ?_⟩
    · exact (other4 j (by omega)).trans ((hg.block j (by rw [World.size_alloc]; omega) (fun e => by have := (hbx j e.symm).1; omega)).trans (Below.heap_alloc _ _ _ hs))
    · refine keep4 j o' hj (fun e => ?_) (fun e => ?_)
      · obtain ⟨_, cur', hc'⟩ := hbx j e
        rw [hc'] at hj; cases hj
        exact hs _ _ rfl
      · subst e
        rw [hgc] at hj; cases hj
        exact ht _ _ rfl

theorem RdO.layDep {base R m : Nat} {dir : ByteArray} {M : List TX} {x : TX} {K : List Bs} {W W3 : World} {g c c' : Nat} {A' : Option Addr} {p : Bs} {o : Obj} (h : RdO base R m dir (M ++ [x]) K W) (hRb : R < base) (hmb : m < base)
    (h1 : W.heap[R]? = some (.cells #[.pointer (some ⟨g, M.length * 3, none⟩), .string dir, .slice (some ⟨g, 0, none⟩) (M.length + 1) c, .map (some m)] 70 (0, 0)))
    (h2 : W.ownsRow base 37 3 (.slice (some ⟨g, 0, none⟩) (M.length + 1) c) (M.length + 1) (gcells (M ++ [x])))
    (hg : (W.alloc o).grownBy W3 (blkA x.B)) (hv : W3.ownsRow base 9 1 (.slice A' (x.d.length + 1) c') (x.d.length + 1) (strVs (x.d ++ [p])))
    (hl : blkA x.B = blkA A' ∨ blkA A' = some (W.heap.size + 1)) :
    RdO base R m dir (M ++ [{ x with B := A', b := c', d := x.d ++ [p] }]) K (W3.setCell ⟨g, M.length * 3 + 2, none⟩ (.slice A' (x.d.length + 1) c')) ∧ TurnR base R m W (W3.setCell ⟨g, M.length * 3 + 2, none⟩ (.slice A' (x.d.length + 1) c')) := by
  obtain ⟨hL, hap⟩ := h.last M x rfl
  obtain ⟨hgb, cur, hgc⟩ := row_ge h2 (g := g) rfl
  obtain ⟨W4, hW4⟩ : ∃ W4, W3.setCell ⟨g, M.length * 3 + 2, none⟩ (.slice A' (x.d.length + 1) c') = W4 := ⟨_, rfl⟩
  obtain ⟨y, hy⟩ : ∃ y : TX, ({ x with B := A', b := c', d := x.d ++ [p] } : TX) = y := ⟨_, rfl⟩
  have hlt : ∀ (j : Nat) (o' : Obj), W.heap[j]? = some o' → j < W.heap.size := fun j o' hj => (Array.getElem?_eq_some_iff.1 hj).1
  have hxg : blkA x.B ≠ some g := no_textB hL.d hgc
  have keep3 : ∀ (j : Nat) (o' : Obj), W.heap[j]? = some o' → blkA x.B ≠ some j → W3.heap[j]? = some o' := fun j o' hj hn =>
    (hg.block j (by rw [World.size_alloc]; have := hlt j o' hj; omega) (fun e => hn e.symm)).trans ((Below.heap_alloc _ _ _ (hlt j o' hj)).trans hj)
  have other4 : ∀ j, j ≠ g → W4.heap[j]? = W3.heap[j]? := fun j hj => by rw [← hW4]; exact heap_setCell_other W3 ⟨g, M.length * 3 + 2, none⟩ j _ hj
  have keep4 : ∀ (j : Nat) (o' : Obj), W.heap[j]? = some o' → blkA x.B ≠ some j → j ≠ g → W4.heap[j]? = some o' := fun j o' hj hn hng => (other4 j hng).trans (keep3 j o' hj hn)
  have hbx : ∀ j, blkA x.B = some j → base ≤ j ∧ ∃ cur, W.heap[j]? = some (.cells cur 9 (0, 0)) := fun j hj => row_ge hL.d ((own_blk _ _ _).trans hj)
  have hsz3 : W.heap.size ≤ W3.heap.size := by have := hg.size; rw [World.size_alloc] at this; omega
  have hsz4 : W.heap.size ≤ W4.heap.size := by rw [← hW4]; simpa [World.setCell] using hsz3
  have r3 : W3.ownsRow base 37 3 (.slice (some ⟨g, 0, none⟩) (M.length + 1) c) (M.length + 1) (gcells (M ++ [x])) := ownsRow_keepA h2 fun j o' _ hj ho => keep3 j o' ho (fun e => by
    simp only [Value.ownBlock, Option.some.injEq] at hj
    subst hj
    exact hxg e)
  have r4 : W4.ownsRow base 37 3 (.slice (some ⟨g, 0, none⟩) (M.length + 1) c) (M.length + 1) (gcells (M ++ [y])) := by
    have := (r3.stored (M.length * 3 + 2) (.slice A' (x.d.length + 1) c')).1
    rwa [gcells_set M x y 2 _ (by rw [← hy]; simp [TX.cs]), hW4] at this
  have hln : (M ++ [y]).length = M.length + 1 := by simp
  have hgA' : blkA A' ≠ some g := fun e => by
    rcases hl with hl | hl
    · exact hxg (hl.trans e)
    · have e2 := hl.symm.trans e
      simp only [Option.some.injEq] at e2
      have := hlt g _ hgc
      omega
  have hlen : (x.d ++ [p]).length = x.d.length + 1 := by simp
  have v4 : W4.ownsRow base 9 1 (.slice A' (x.d ++ [p]).length c') (x.d ++ [p]).length (strVs (x.d ++ [p])) := by
    rw [hlen]
    exact ownsRow_keepA hv fun j o' _ hj ho => (other4 j (fun e => by rw [own_blk] at hj; exact hgA' (by rw [hj, e]))).trans ho
  have hne : ∀ j, blkA x.A = some j → blkA x.B ≠ some j := fun j hj e => hL.ne j hj e
  have hgB : blkA x.A ≠ some g := no_textB hL.s hgc
  have d4 : W4.ownsRow base 9 1 (.slice x.A x.s.length x.c) x.s.length (strVs x.s) := ownsRow_keepA hL.s fun j o' _ hj ho => by
    rw [own_blk] at hj
    exact keep4 j o' ho (hne j hj) (fun e => hgB (by rw [hj, e]))
  have hBs : ∀ j, blkA x.A = some j → j < W.heap.size := fun j hj => by
    obtain ⟨_, cur', hc'⟩ := row_ge hL.s ((own_blk _ _ _).trans hj)
    exact hlt j _ hc'
  have hne4 : ∀ j, blkA A' = some j → blkA x.A ≠ some j := fun j hj hB => by
    rcases hl with hl | hl
    · exact hne j hB (hl.trans hj)
    · have e2 := hl.symm.trans hj
      simp only [Option.some.injEq] at e2
      have := hBs j hB
      omega
  have hL4 : TgL base W4 y := by rw [← hy]; exact ⟨d4, v4, fun j hj hB => hne4 j hB hj⟩
  have htg : ∀ z ∈ M, TgT base W4 z := fun z hz => (h.own z (by simp [hz])).keep hsz4 fun j cur' _ hj ho => keep4 j _ ho (fun e => by
    have := hap z hz j (.inr e)
    rcases hj with hj | hj
    · exact this.1 hj
    · exact this.2 hj) (fun e => by
    subst e
    rw [hgc] at ho; cases ho)
  rw [hW4, hy]
  refine ⟨⟨⟨some ⟨g, 0, none⟩, c, ?_, ?_⟩, fun z hz => ?_, fun M' z e => ?_, h.names.keep fun o' ho => ?_⟩, ?_⟩
  · rw [hln, show endA (some ⟨g, 0, none⟩) (M.length + 1) = some ⟨g, M.length * 3, none⟩ from by simp [endA]]
    exact keep4 R _ h1 (fun e => by have := (hbx R e).1; omega) (by omega)
  · rw [hln]; exact r4
  · rcases List.mem_append.1 hz with hz | hz
    · exact htg z hz
    · simp only [List.mem_singleton] at hz; subst hz
      exact hL4.ro
  · obtain ⟨rfl, e2⟩ := List.append_inj' e rfl
    simp only [List.cons.injEq, and_true] at e2
    subst e2
    refine ⟨hL4, fun z hz j hj => ?_⟩
    have hzl := (h.own z (by simp [hz])).lt j
    rw [← hy] at hj
    rcases hj with hj | hj
    · exact hap z hz j (.inl hj)
    · (rcases hl with hl | hl
       · exact hap z hz j (.inr (hl.trans hj))
       · have e2 := hl.symm.trans hj
         simp only [Option.some.injEq] at e2
         exact ⟨fun e => by have := hzl (.inl e); omega, fun e => by have := hzl (.inr e); omega⟩)
  · exact keep4 m o' ho (fun e => by have := (hbx m e).1; omega) (by omega)
  · refine ⟨by rw [← hW4]; exact hg.os, by rw [← hW4]; exact hg.tape, by rw [← hW4]; exact hg.output, hsz4, fun j hj hs _ _ => ?_, fun j o' hj _ _ ht hs => ?_⟩
    · exact (other4 j (by omega)).trans ((hg.block j (by rw [World.size_alloc]; omega) (fun e => by have := (hbx j e.symm).1; omega)).trans (Below.heap_alloc _ _ _ hs))
    · refine keep4 j o' hj (fun e => ?_) (fun e => ?_)
      · obtain ⟨_, cur', hc'⟩ := hbx j e
        rw [hc'] at hj; cases hj
        exact hs _ _ rfl
      · subst e
        rw [hgc] at hj; cases hj
        exact ht _ _ rfl
end Go.Proofs.YtlampcelmlejbaaDoor
