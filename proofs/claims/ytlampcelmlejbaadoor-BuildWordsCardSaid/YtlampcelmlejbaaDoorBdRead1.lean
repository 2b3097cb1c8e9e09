/-
  What is known between two lines of a BUILD file, and that it stays where the lines' sequence turns its own.
-/
import Derived.Test.YtlampcelmlejbaaDoorBdActs2
namespace Go.Proofs.YtlampcelmlejbaaDoor
open Go Go.RowKit Go.Shelf Go.Proofs

theorem ownsRow_keepC {base e size n : Nat} {w w' : World} {v : Value} {xs : List Value} (h : w.ownsRow base e size v n xs) (hk : ∀ j cur, base ≤ j → w.heap[j]? = some (.cells cur e (0, 0)) → w'.heap[j]? = some (.cells cur e (0, 0))) : w'.ownsRow base e size v n xs :=
  ⟨h.1, h.2.imp id fun ⟨g, cap, cur, hv, hb, hg, r⟩ => ⟨g, cap, cur, hv, hb, hk g _ hb hg, r⟩⟩
/-- What it reads of its own are cells. -/
theorem RdO.kept2 {base R m : Nat} {dir : ByteArray} {L : List TX} {K : List Bs} {W W' : World} (h : RdO base R m dir L K W) (hs : W.heap.size ≤ W'.heap.size) (hR : ∀ o, W.heap[R]? = some o → W'.heap[R]? = some o) (hm : ∀ o, W.heap[m]? = some o → W'.heap[m]? = some o)
    (hk : ∀ (j : Nat) (cur : Array Value) (t : TypeId), base ≤ j → W.heap[j]? = some (.cells cur t (0, 0)) → W'.heap[j]? = some (.cells cur t (0, 0))) : RdO base R m dir L K W' := by
  obtain ⟨A, c, h1, h2⟩ := h.box
  refine ⟨⟨A, c, hR _ h1, ownsRow_keepC h2 fun j o hb ho => hk j o _ hb ho⟩, fun x hx => (h.own x hx).keep hs fun j o hb _ ho => hk j _ _ hb ho, fun M x e => ?_, h.names.keep fun o ho => hm o ho⟩
  obtain ⟨hl, ha⟩ := h.last M x e
  exact ⟨⟨ownsRow_keepC hl.s fun j o hb ho => hk j o _ hb ho, ownsRow_keepC hl.d fun j o hb ho => hk j o _ hb ho, hl.ne⟩, ha⟩
theorem TurnR.grown {base R m : Nat} {w X Y : World} {row : Option Nat} (h : TurnR base R m w X) (hg : X.grownBy Y row) (hb : w.heap.size ≤ base) (hr : ∀ r, row = some r → base ≤ r) : TurnR base R m w Y :=
  ⟨hg.os.trans h.os, hg.tape.trans h.tape, hg.output.trans h.output, Nat.le_trans h.size hg.size, fun j hj hs h1 h2 => (hg.block j (Nat.lt_of_lt_of_le hs h.size) (fun e => by have := hr j e.symm; omega)).trans (h.low j hj hs h1 h2),
    fun j o ho h1 h2 h3 h4 => by
      have hj := (Array.getElem?_eq_some_iff.1 ho).1
      exact (hg.block j (Nat.lt_of_lt_of_le hj h.size) (fun e => by have := hr j e.symm; omega)).trans (h.same j o ho h1 h2 h3 h4)⟩
theorem TurnR.from {base R m B : Nat} {W W' : World} (h : TurnR base R m W W') (hR : R < B) (hm : m < B) : KeepsFrom B W W' :=
  ⟨h.size, fun k o hk hw ho => h.same k o hw (by omega) (by omega) (fun cur fr e => by subst e; cases ho) (fun cur fr e => by subst e; cases ho)⟩
/-- Between two lines. -/
def ReadI (R m : Nat) (dir s : ByteArray) (w : World) (k : Nat) (W : World) : Prop :=
  Boxed W (w.heap.size + 2) 102 (.map (some (w.heap.size + 1))) ∧ W.heap[w.heap.size + 1]? = some (.map (actsE R) 3) ∧ Boxed W w.heap.size 27 (.int .i64 0) ∧
    (∃ L, Hid (readTo dir.data.toList s k = .ok (tgsX L)) ∧ RdO (w.heap.size + 6) R m dir L ((tgsX L).map (·.n)) W ∧ BdK k (tgsX L)) ∧ TurnR w.heap.size R m w W
/-- Where a line may not be. -/
def ReadX (R m : Nat) (dir s : ByteArray) (w : World) (c : Code) (k : Nat) (W : World) : Prop :=
  c = .ret ∧ ∃ n L K, Hid (readTo dir.data.toList s (k + 1) = .error n ∧ n ≠ 0) ∧ RdO (w.heap.size + 6) R m dir L K W ∧ Boxed W w.heap.size 27 (.int .i64 n) ∧ TurnR w.heap.size R m w W
theorem RdO.turned {b R m : Nat} {dir : ByteArray} {L : List TX} {K : List Bs} {X Y : World} {row : Option Nat} (h : RdO (b + 6) R m dir L K X) (hR : R < b) (hm : m < b) (hg : X.grownBy Y row) (hr : ∀ r, row = some r → OnlyS (b + 3) r ∨ (b + 6 ≤ r ∧ ∃ o : Obj, X.heap[r]? = some o ∧ o.isCells = false)) : RdO (b + 6) R m dir L K Y := by
  have low : ∀ j o, X.heap[j]? = some o → j < b → Y.heap[j]? = some o := fun j o hj hlt => (hg.block j (Array.getElem?_eq_some_iff.1 hj).1 (fun e => by
    rcases hr j e.symm with h | ⟨h, _⟩
    · unfold OnlyS at h; omega
    · omega)).trans hj
  refine h.kept2 hg.size (fun o ho => low R o ho hR) (fun o ho => low m o ho hm) fun j cur t hb hj => (hg.block j (Array.getElem?_eq_some_iff.1 hj).1 (fun e => ?_)).trans hj
  rcases hr j e.symm with h | ⟨_, o, ho, hc⟩
  · unfold OnlyS at h; omega
  · rw [hj] at ho; cases ho; cases hc
theorem readI_own {R m : Nat} {dir s : ByteArray} {w W0 : World} (hs0 : W0.heap.size = w.heap.size + 6) (hR : R < w.heap.size) (hm : m < w.heap.size) : OwnTo (OnlyS (w.heap.size + 3)) W0.heap.size (fun k W => ReadI R m dir s w k W) := by
  rintro k X Y row ⟨h1, h2, h3, ⟨L, h4, h5, h6⟩, h7⟩ hg hr
  rw [hs0] at hr
  have keep : ∀ j o, X.heap[j]? = some o → j < w.heap.size + 6 → j ≠ w.heap.size + 3 → Y.heap[j]? = some o := fun j o hj hlt hne => (hg.block j (Array.getElem?_eq_some_iff.1 hj).1 (fun e => by
    rcases hr j e.symm with h | ⟨h, _⟩
    · exact hne h
    · omega)).trans hj
  refine ⟨keep _ _ h1 (by omega) (by omega), keep _ _ h2 (by omega) (by omega), keep _ _ h3 (by omega) (by omega), ⟨L, h4, h5.turned hR hm hg hr, h6⟩, h7.grown hg (Nat.le_refl _) fun r e => ?_⟩
  rcases hr r e with h | ⟨h, _⟩
  · unfold OnlyS at h; omega
  · omega
theorem readX_own {R m : Nat} {dir s : ByteArray} {w W0 : World} {c : Code} (hs0 : W0.heap.size = w.heap.size + 6) (hR : R < w.heap.size) (hm : m < w.heap.size) : OwnTo (OnlyS (w.heap.size + 3)) W0.heap.size (fun k W => ReadX R m dir s w c k W) := by
  rintro k X Y row ⟨h0, n, L, K, h4, h5, h3, h7⟩ hg hr
  rw [hs0] at hr
  have keep : ∀ j o, X.heap[j]? = some o → j < w.heap.size + 6 → j ≠ w.heap.size + 3 → Y.heap[j]? = some o := fun j o hj hlt hne => (hg.block j (Array.getElem?_eq_some_iff.1 hj).1 (fun e => by
    rcases hr j e.symm with h | ⟨h, _⟩
    · exact hne h
    · omega)).trans hj
  refine ⟨h0, n, L, K, h4, h5.turned hR hm hg hr, keep _ _ h3 (by omega) (by omega), h7.grown hg (Nat.le_refl _) fun r e => ?_⟩
  rcases hr r e with h | ⟨h, _⟩
  · unfold OnlyS at h; omega
  · omega
end Go.Proofs.YtlampcelmlejbaaDoor
