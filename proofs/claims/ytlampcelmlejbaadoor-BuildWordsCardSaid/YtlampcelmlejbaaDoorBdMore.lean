/-
  What the reader's act target stores: a name, a target more, the place of the target at hand.
-/
import Derived.Test.YtlampcelmlejbaaDoorBdLay
namespace Go.Proofs.YtlampcelmlejbaaDoor
open Go Go.RowKit Go.Shelf Go.Proofs

/-- A target that has nothing yet. -/
def newX (n : ByteArray) : TX := ⟨n, none, 0, [], none, 0, []⟩
theorem RdO.named {base R m : Nat} {dir : ByteArray} {L : List TX} {K : List Bs} {s : Bs} {W W' : World} (h : RdO base R m dir L K W) (hRm : R ≠ m) (hmb : m < base) (hg : W.grownBy W' (some m)) (hn : NamesAt W' m (K.length + 1) (K ++ [s])) : RdO base R m dir L (K ++ [s]) W' ∧ TurnR base R m W W' := by
  have keep : ∀ (j : Nat) (o : Obj), W.heap[j]? = some o → j ≠ m → W'.heap[j]? = some o := fun j o hj hn => (hg.block j (Array.getElem?_eq_some_iff.1 hj).1 (fun e => hn (by simpa using e))).trans hj
  obtain ⟨A, c, h1, h2⟩ := h.box
  refine ⟨⟨⟨A, c, keep R _ h1 hRm, ownsRow_keepA h2 fun j o hb _ ho => keep j o ho (by omega)⟩, fun x hx => (h.own x hx).keep hg.size fun j o hb _ ho => keep j _ ho (by omega), fun M x e => ?_, by rw [List.length_append]; exact hn⟩, hg.os, hg.tape, hg.output, hg.size, fun j _ hs _ h2 => hg.block j hs (fun e => h2 (by simpa using e)), fun j o hj _ h2 _ _ => keep j o hj h2⟩
  obtain ⟨hl, ha⟩ := h.last M x e
  exact ⟨⟨ownsRow_keepA hl.s fun j o hb _ ho => keep j o ho (by omega), ownsRow_keepA hl.d fun j o hb _ ho => keep j o ho (by omega), hl.ne⟩, ha⟩
/-- A target more in the row; the place of the target at hand is the old one yet. -/
structure RdM (base R m : Nat) (dir : ByteArray) (M : List TX) (n : ByteArray) (K : List Bs) (p : Option Addr) (g c : Nat) (W : World) : Prop where
  r : W.heap[R]? = some (.cells #[.pointer p, .string dir, .slice (some ⟨g, 0, none⟩) (M.length + 1) c, .map (some m)] 70 (0, 0))
  row : W.ownsRow base 37 3 (.slice (some ⟨g, 0, none⟩) (M.length + 1) c) (M.length + 1) (gcells (M ++ [newX n]))
  own : ∀ x ∈ M, TgT base W x
  names : NamesAt W m K.length K
theorem RdO.added {base R m : Nat} {dir n : ByteArray} {L : List TX} {K : List Bs} {W W3 : World} {A p : Option Addr} {c g' c' : Nat} {o : Obj} (h : RdO base R m dir L K W) (hR : R < base) (hRm : R ≠ m) (hmb : m < base)
    (h1 : W.heap[R]? = some (.cells #[.pointer p, .string dir, .slice A L.length c, .map (some m)] 70 (0, 0)))
    (h2 : W.ownsRow base 37 3 (.slice A L.length c) L.length (gcells L)) (hg : (W.alloc o).grownBy W3 (blkA A))
    (hv : W3.ownsRow base 37 3 (.slice (some ⟨g', 0, none⟩) (L.length + 1) c') (L.length + 1) (gcells (L ++ [newX n]))) :
    RdM base R m dir L n K p g' c' (W3.setCell ⟨R, 2, none⟩ (.slice (some ⟨g', 0, none⟩) (L.length + 1) c')) ∧ TurnR base R m W (W3.setCell ⟨R, 2, none⟩ (.slice (some ⟨g', 0, none⟩) (L.length + 1) c')) := by
  have hlt : ∀ (j : Nat) (o' : Obj), W.heap[j]? = some o' → j < W.heap.size := fun j o' hj => (Array.getElem?_eq_some_iff.1 hj).1
  have hA : ∀ j, blkA A = some j → base ≤ j ∧ ∃ cur, W.heap[j]? = some (.cells cur 37 (0, 0)) := fun j hj => row_ge h2 ((own_blk _ _ _).trans hj)
  have keep3 : ∀ (j : Nat) (o' : Obj), W.heap[j]? = some o' → blkA A ≠ some j → W3.heap[j]? = some o' := fun j o' hj hn =>
    (hg.block j (by rw [World.size_alloc]; have := hlt j o' hj; omega) (fun e => hn e.symm)).trans ((Below.heap_alloc _ _ _ (hlt j o' hj)).trans hj)
  obtain ⟨W4, hW4⟩ : ∃ W4, W3.setCell ⟨R, 2, none⟩ (.slice (some ⟨g', 0, none⟩) (L.length + 1) c') = W4 := ⟨_, rfl⟩
  have other4 : ∀ j, j ≠ R → W4.heap[j]? = W3.heap[j]? := fun j hj => by rw [← hW4]; exact heap_setCell_other W3 ⟨R, 2, none⟩ j _ hj
  have hsz3 : W.heap.size ≤ W3.heap.size := by have := hg.size; rw [World.size_alloc] at this; omega
  have hsz4 : W.heap.size ≤ W4.heap.size := by rw [← hW4]; simpa [World.setCell] using hsz3
  have hR3 := keep3 R _ h1 (fun e => by have := (hA R e).1; omega)
  have text : ∀ (j : Nat) (cur : Array Value), base ≤ j → W.heap[j]? = some (.cells cur 9 (0, 0)) → W4.heap[j]? = some (.cells cur 9 (0, 0)) := fun j cur hb hj => (other4 j (by omega)).trans (keep3 j _ hj (fun e => by
    obtain ⟨_, cur', hc⟩ := hA j e
    rw [hj] at hc; cases hc))
  rw [hW4]
  refine ⟨⟨?_, ownsRow_keepA hv fun j o' hb _ ho => (other4 j (by omega)).trans ho, fun x hx => (h.own x hx).keep hsz4 fun j cur hb _ ho => text j cur hb ho, h.names.keep fun o' ho => (other4 m (fun e => hRm e.symm)).trans (keep3 m o' ho (fun e => by have := (hA m e).1; omega))⟩, by rw [← hW4]; exact hg.os, by rw [← hW4]; exact hg.tape, by rw [← hW4]; exact hg.output, hsz4, fun j hj hs h1 _ => ?_, fun j o' hj h1 _ ht _ => ?_⟩
  · rw [← hW4]; exact heap_setCell_same W3 R 2 _ _ _ hR3
  · exact (other4 j h1).trans ((hg.block j (by rw [World.size_alloc]; omega) (fun e => by have := (hA j e.symm).1; omega)).trans (Below.heap_alloc _ _ _ hs))
  · exact (other4 j h1).trans (keep3 j o' hj (fun e => by
      obtain ⟨_, cur, hc⟩ := hA j e
      rw [hc] at hj; cases hj
      exact ht _ _ rfl))
theorem RdM.pointed {base R m : Nat} {dir n : ByteArray} {M : List TX} {K : List Bs} {W : World} {p : Option Addr} {g c : Nat} (h : RdM base R m dir M n K p g c W) (hR : R < base) (hRm : R ≠ m) :
    RdO base R m dir (M ++ [newX n]) K (W.setCell ⟨R, 0, none⟩ (.pointer (some ⟨g, M.length * 3, none⟩))) ∧ TurnR base R m W (W.setCell ⟨R, 0, none⟩ (.pointer (some ⟨g, M.length * 3, none⟩))) := by
  have other : ∀ j, j ≠ R → (W.setCell ⟨R, 0, none⟩ (.pointer (some ⟨g, M.length * 3, none⟩))).heap[j]? = W.heap[j]? := fun j hj => heap_setCell_other W ⟨R, 0, none⟩ j _ hj
  have hsz : W.heap.size ≤ (W.setCell ⟨R, 0, none⟩ (.pointer (some ⟨g, M.length * 3, none⟩))).heap.size := by simp [World.setCell]
  have hln : (M ++ [newX n]).length = M.length + 1 := by simp
  have hnew : ∀ w : World, TgL base w (newX n) := fun w => ⟨World.ownsRow_nil _ _ _ _, World.ownsRow_nil _ _ _ _, fun g h => by cases h⟩
  refine ⟨⟨⟨some ⟨g, 0, none⟩, c, ?_, ?_⟩, fun x hx => ?_, fun M' x e => ?_, h.names.keep fun o ho => (other m (fun e => hRm e.symm)).trans ho⟩, rfl, rfl, rfl, hsz, fun j _ _ h1 _ => other j h1, fun j o hj h1 _ _ _ => (other j h1).trans hj⟩
  · rw [hln, show endA (some ⟨g, 0, none⟩) (M.length + 1) = some ⟨g, M.length * 3, none⟩ from by simp [endA]]
    exact heap_setCell_same W R 0 _ _ _ h.r
  · rw [hln]; exact ownsRow_keepA h.row fun j o hb _ ho => (other j (by omega)).trans ho
  · rcases List.mem_append.1 hx with hx | hx
    · exact (h.own x hx).keep hsz fun j cur hb _ ho => (other j (by omega)).trans ho
    · simp only [List.mem_singleton] at hx; subst hx
      exact (hnew _).ro
  · obtain ⟨rfl, e2⟩ := List.append_inj' e rfl
    simp only [List.cons.injEq, and_true] at e2
    subst e2
    refine ⟨hnew _, fun y _ j hj => ?_⟩
    rcases hj with hj | hj <;> cases hj
end Go.Proofs.YtlampcelmlejbaaDoor
