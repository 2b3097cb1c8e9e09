/-
  A range over a function whose iterator makes, and writes, memory of its own between two rounds, and hands out what lies there. No program is named here.
-/
import Derived.Test.YteigepblocbnlaaSeq
namespace Go.Proofs.Yteigepblocbnlaa
open Go
open Go.RowKit

/-- A round keeps the iterator's own blocks: from B on. -/
structure KpB (B : Nat) (W W' : World) : Prop where
  size : W.heap.size ≤ W'.heap.size
  same : ∀ k, B ≤ k → k < W.heap.size → W'.heap[k]? = W.heap[k]?
theorem KpB.refl (B : Nat) (W : World) : KpB B W W := ⟨Nat.le_refl _, fun _ _ _ => rfl⟩
theorem KpB.trans {B : Nat} {X Y Z : World} (h : KpB B X Y) (k : KpB B Y Z) : KpB B X Z := ⟨Nat.le_trans h.size k.size, fun i hi hl => (k.same i hi (Nat.lt_of_lt_of_le hl h.size)).trans (h.same i hi hl)⟩
theorem KpB.put {B l : Nat} {W : World} (o : Obj) (h : l < B) : KpB B W (W.putObj l o) := ⟨(grownBy_putObj' W l o).size, fun k hk hl => (grownBy_putObj' W l o).block k hl (fun e => by cases e; omega)⟩

/-- The iterator's contract: N rounds; V k: what the k-th is handed; J k: k of them have been; R: what it reads of the caller's. No round says 'no more'. -/
def SeqOwn (F : Fence) (n : Nat) (P : Program) (g : Nat) (lb : Array Value) (V : Nat → Array Value → World → Prop) (N : Nat) (R : World → Prop) (w : World) : Prop :=
  ∀ (l : Nat) (J : Nat → World → Prop) (W : World), Below w.heap.size w W → (∀ k W1 W2, J k W1 → Below W.heap.size W1 W2 → J k W2) → (∀ k W1, J k W1 → R W1) →
    (∀ k vs W1, k < N → J k W1 → V k vs W1 → YieldAt F (n - 1) P l vs W1 fun e W' => e = .returned (.bool true) ∧ J (k + 1) W' ∧ KpB W.heap.size W1 W') →
    J 0 W →
    CallsIn F n P g (#[.func (.yield l) #[] #[]] ++ lb) W fun e W' => (∃ v, e = .returned v) ∧ J N W'

/-- How the body of a round may be left: by its end alone. -/
def ownPostN (B : Nat) (I : Nat → World → Prop) (k : Nat) (W : World) : Exit → Act → World → Prop
  | .normal, _, W' => KeepsFrom B W W' ∧ KpB (B + 2) W W' ∧ I k W'
  | _, _, _ => False

variable {F : Fence} {n : Nat} {P : Program}

theorem wpIn_rangeOwn {g : Operand} {ps : Array Tmp} {assign body : Code} {Q : Exit → Act → World → Prop} {a : Act} {w : World}
    (hro : F.round = none) (h1 : F.depth.isSome = true → 1 ≤ n) {gf : Nat} {lb : Array Value} (hg : a.eval g = .func (.func gf) #[] lb) (hFg : F.fn gf) (eg : ∀ args w, (callFunc gf args).run P w = .ok (.enter gf args) w)
    {V : Nat → Array Value → World → Prop} {N : Nat} {R : World → Prop} {w0 : World} (hseq : SeqOwn F (n - 1) P gf lb V N R w0)
    (hb0 : Below w0.heap.size w0 w) (hps : ∀ k vs W, V k vs W → vs.size = ps.size)
    (I : Nat → World → Prop) (hI : OwnFrom w.heap.size I) (hIB : ∀ k W1 W2, I k W1 → Below (w.heap.size + 2) W1 W2 → I k W2) (h0 : I 0 w) (hIR : ∀ k W, I k W → R W)
    (Ax : Nat → Array Value → Act → World → Prop) (hAx : ∀ k vs a', OwnFrom w.heap.size (fun (_ : Unit) W => Ax k vs a' W))
    (hassign : ∀ (l : Nat) (k : Nat) (vs : Array Value) (W : World) (K : Act → World → Prop), I k W → V k vs W → (∀ a' W', KeepsFrom w.heap.size W W' → KpB (w.heap.size + 2) W W' → I k W' → Ax k vs a' W' → K a' W') →
      assign.wpIn (F.inRound l) (n - 1 - 1) P (Exit.then K (fun _ _ _ => False)) { tmps := (ps.zip vs).foldl (fun t (p, v) => t.setIfInBounds p v) a.tmps, defers := [] } W)
    (hbody : ∀ (l : Nat) (k : Nat) (vs : Array Value) (a' : Act) (W : World), k < N → w.heap.size ≤ l → (∃ r, W.heap[l]? = some (.loop r)) → I k W → Ax k vs a' W → body.wpIn (F.inRound l) (n - 1 - 1) P (ownPostN w.heap.size I (k + 1) W) a' W)
    (hdone : ∀ (D : Nat) (W : World), w.heap.size ≤ D → I N W → W.heap[D]? = some (.deferred (some [])) → Q .normal { a with defers := { target := .collected D, args := #[] } :: a.defers } W) :
    (Code.rangeFunc g ps assign body).wpIn F n P Q a w := by
  refine wpIn_rangeFunc ?_
  intro fn hfn
  rw [hro]
  obtain ⟨rec, hrec⟩ : ∃ rec : LoopState → Option Code → Loop, rec = fun st pe => { state := st, pending := pe, fn, tmps := a.tmps, params := ps, assign, body, defers := w.heap.size } := ⟨_, rfl⟩
  obtain ⟨W1, hW1⟩ : ∃ W1, (w.alloc (.deferred (some []))).alloc (.loop (rec .ready none)) = W1 := ⟨_, rfl⟩
  have hsz : W1.heap.size = w.heap.size + 2 := by rw [← hW1]; simp
  have hL1 : W1.heap[w.heap.size + 1]? = some (.loop (rec .ready none)) := by
    rw [← hW1]; have := World.alloc_heap_new (w.alloc (.deferred (some []))) (.loop (rec .ready none)); rwa [World.size_alloc] at this
  have hK1 : W1.heap[w.heap.size]? = some (.deferred (some [])) := by
    rw [← hW1]; exact (Below.heap_alloc _ _ _ (by simp)).trans (World.alloc_heap_new w _)
  have hI1 : I 0 W1 := by rw [← hW1]; exact hI.alloc _ (hI.alloc _ h0)
  have hb1 : Below w0.heap.size w0 W1 := by
    rw [← hW1]; exact hb0.trans ((((Below.refl _ w).alloc (Nat.le_refl _) _).alloc (by simp) _).mono hb0.size)
  refine ⟨w.heap.size + 1, [{ target := .collected w.heap.size, args := #[] }], W1, { target := .fn (.func gf) lb, args := #[.func (.yield (w.heap.size + 1)) #[] #[]] }, W1, gf,
    #[.func (.yield (w.heap.size + 1)) #[] #[]] ++ lb, W1, ?_, ?_, ?_, ?_, h1, ?_⟩
  · rw [← hW1, hrec]; exact run_enterLoop_outer _ _ _ _ _
  · simp only [resolve, hg]
    simp [go_sem]
  · intro f' hf'; simp [Target.leads] at hf'; subst hf'; exact hFg
  · simp [invoke, go_sem, eg]
  · refine (hseq (w.heap.size + 1)
      (fun k W => I k W ∧ W.heap[w.heap.size + 1]? = some (.loop (rec .ready none)) ∧ W.heap[w.heap.size]? = some (.deferred (some [])))
      W1 hb1
      (fun k A B hs hb => ⟨hIB k A B hs.1 (hb.mono (by omega)), (hb.block _ (by omega)).trans hs.2.1, (hb.block _ (by omega)).trans hs.2.2⟩)
      (fun k W1 h => hIR k W1 h.1) ?_ ⟨hI1, hL1, hK1⟩).mono ?_
    · -- one round
      rintro k vs W hkN ⟨hi, hl, hk⟩ hx
      have hy := run_yield (P := P) (args := vs) hl (by rw [hrec]; exact hps k vs W hx)
      rw [hrec] at hy
      refine ⟨fn, _, assign, body, hy, roundIn_of_wpIn hfn (hassign _ k vs W _ hi hx ?_)⟩
      clear hy
      intro a' V' hkf hkp hiV hax
      have hlV := hkf.same _ _ (by omega) hl rfl
      have hkV := hkf.same _ _ (Nat.le_refl _) hk rfl
      have hltV : w.heap.size + 1 < V'.heap.size := (Array.getElem?_eq_some_iff.1 hlV).1
      refine ⟨_, run_beginRound hlV (by rw [hrec]), ?_⟩
      obtain ⟨X, hX⟩ : ∃ X, V'.putObj (w.heap.size + 1) (.loop { rec .ready none with state := .busy }) = X := ⟨_, rfl⟩
      have hlX : X.heap[w.heap.size + 1]? = some (.loop { rec .ready none with state := .busy }) := by rw [← hX]; exact World.putObj_heap_same hltV
      have hkX : X.heap[w.heap.size]? = some (.deferred (some [])) := by rw [← hX]; exact (World.putObj_heap_other (by omega)).trans hkV
      have hwX : KpB (w.heap.size + 2) V' X := by rw [← hX]; exact KpB.put _ (by omega)
      have hiX : I k X := by rw [← hX]; exact hI.putObj _ hiV (by omega) hlV rfl
      have haX : Ax k vs a' X := by rw [← hX]; exact (hAx k vs a').putObj (s := ()) _ hax (by omega) hlV rfl
      rw [hX]
      refine wpIn_mono (hbody _ k vs a' _ hkN (by omega) ⟨_, hlX⟩ hiX haX) ?_
      rintro e a3 Y hp
      cases e with
      | normal =>
        obtain ⟨hk3, hkp3, hi3⟩ := hp
        have hl3 := hk3.same _ _ (by omega) hlX rfl
        have he := run_endRound (P := P) none hl3
        rw [hrec] at he
        obtain ⟨Z, hZ⟩ : ∃ Z, Z = Y.putObj (w.heap.size + 1) (.loop (rec .ready none)) := ⟨_, rfl⟩
        have hl4 : Z.heap[w.heap.size + 1]? = some (.loop (rec .ready none)) := by rw [hZ]; exact World.putObj_heap_same (Array.getElem?_eq_some_iff.1 hl3).1
        have hk4 : Z.heap[w.heap.size]? = some (.deferred (some [])) := by rw [hZ]; exact (World.putObj_heap_other (by omega)).trans (hk3.same _ _ (Nat.le_refl _) hkX rfl)
        refine ⟨_, Z, by rw [hZ, hrec]; exact he, rfl, ⟨?_, hl4, hk4⟩, ?_⟩
        · rw [hZ]; exact hI.putObj _ hi3 (by omega) hl3 rfl
        · rw [hsz]; refine hkp.trans (hwX.trans (hkp3.trans ?_)); rw [hZ]; exact KpB.put _ (by omega)
      | ret => exact hp.elim
      | exit id => exact hp.elim
      | goto t => exact hp.elim
      | panic ch => exact hp.elim
      | outgrown => exact hp.elim
    · -- behind the iterator
      rintro e W2 ⟨⟨v, rfl⟩, hi, hl, hk⟩
      have he := run_endLoop (P := P) hl (by rw [hrec]; simp)
      rw [hrec] at he
      exact ⟨none, _, he, hdone _ _ (Nat.le_refl _) (hI.putObj _ hi (by omega) hl rfl) ((World.putObj_heap_other (by omega)).trans hk)⟩
end Go.Proofs.Yteigepblocbnlaa
