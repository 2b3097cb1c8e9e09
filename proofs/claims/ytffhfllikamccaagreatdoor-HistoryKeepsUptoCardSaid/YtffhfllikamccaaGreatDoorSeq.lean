/-
  A range over a function whose iterator keeps its state in variables of its own (boxes that it writes between two rounds).
  The list of what comes is known: xs. 'T': the blocks that the iterator writes; 'Kp': what a round that goes on keeps for it.
  No program is named here.
-/
import Derived.RangeFuncNested
import Derived.RangeFuncLeaves
namespace Go.Proofs.YtffhfllikamccaaGreatDoor
open Go
open Go.RowKit

/-- J abides the iterator's own steps: new blocks, turns of walks laid since block B, stores into blocks of T. -/
def AbidesTo {β : Type} (T : Nat → Prop) (B : Nat) (J : β → World → Prop) : Prop :=
  ∀ s W W' row, J s W → W.grownBy W' row → (∀ r, row = some r → T r ∨ (B ≤ r ∧ ∃ o : Obj, W.heap[r]? = some o ∧ o.isWalk = true)) → J s W'

/-- The caller's invariant abides that, and turns of blocks from B on that are no cells. -/
def OwnTo {β : Type} (T : Nat → Prop) (B : Nat) (I : β → World → Prop) : Prop :=
  ∀ s W W' row, I s W → W.grownBy W' row → (∀ r, row = some r → T r ∨ (B ≤ r ∧ ∃ o : Obj, W.heap[r]? = some o ∧ o.isCells = false)) → I s W'

theorem OwnTo.from {β : Type} {T : Nat → Prop} {B : Nat} {I : β → World → Prop} (h : OwnTo T B I) : OwnFrom B I :=
  fun s W W' row hs hg hr => h s W W' row hs hg (fun r e => .inr (hr r e))
theorem OwnTo.and {β : Type} {T : Nat → Prop} {B : Nat} {I I' : β → World → Prop} (h : OwnTo T B I) (h' : OwnTo T B I') : OwnTo T B (fun s W => I s W ∧ I' s W) :=
  fun s W W' row hs hg hr => ⟨h s W W' row hs.1 hg hr, h' s W W' row hs.2 hg hr⟩
theorem OwnTo.pure {β : Type} (T : Nat → Prop) (B : Nat) (p : β → Prop) : OwnTo T B (fun s (_ : World) => p s) := fun _ _ _ _ hs _ _ => hs
/-- A block below B that is not of T lies as it lay. -/
theorem OwnTo.block {β : Type} {T : Nat → Prop} {B : Nat} {k : Nat} {o : β → Obj} (hk : k < B) (hT : ¬ T k) : OwnTo T B (fun s W => W.heap[k]? = some (o s)) :=
  fun s W W' row hs hg hr => (hg.block k (Array.getElem?_eq_some_iff.1 hs).1 (fun e => by
    rcases hr k e.symm with h | h
    · exact hT h
    · omega)).trans hs
theorem OwnTo.below {β : Type} {T : Nat → Prop} {B n₀ : Nat} {w : World} (hn : n₀ ≤ w.heap.size) (hB : n₀ ≤ B) (hT : ∀ r, T r → n₀ ≤ r) : OwnTo T B (fun (_ : β) W => Below n₀ w W) :=
  fun _ W W' row hs hg hr => hs.grown hg (Nat.le_trans hn hs.size) (fun r e => by
    rcases hr r e with h | h
    · exact hT r h
    · omega)

/-- What blocks of K hold lies as it lay. -/
structure KeepsB (K : Nat → Prop) (W W' : World) : Prop where
  size : W.heap.size ≤ W'.heap.size
  same : ∀ k, K k → k < W.heap.size → W'.heap[k]? = W.heap[k]?
theorem KeepsB.refl (K : Nat → Prop) (W : World) : KeepsB K W W := ⟨Nat.le_refl _, fun _ _ _ => rfl⟩
theorem KeepsB.trans {K : Nat → Prop} {A B C : World} (h : KeepsB K A B) (k : KeepsB K B C) : KeepsB K A C :=
  ⟨Nat.le_trans h.size k.size, fun i hi hl => (k.same i hi (Nat.lt_of_lt_of_le hl h.size)).trans (h.same i hi hl)⟩
theorem KeepsB.of_grownBy {K : Nat → Prop} {W W' : World} {row : Option Nat} (hg : W.grownBy W' row) (hr : ∀ r, row = some r → ¬ K r) : KeepsB K W W' :=
  ⟨hg.size, fun k hk hl => hg.block k hl (fun e => hr k e.symm hk)⟩
theorem KeepsB.alloc {K : Nat → Prop} (W : World) (o : Obj) : KeepsB K W (W.alloc o) := .of_grownBy (World.grownBy_alloc W o none) (fun _ e => by cases e)
theorem KeepsB.setCell {K : Nat → Prop} (W : World) (b : Nat) (v : Value) (hb : ¬ K b) : KeepsB K W (W.setCell ⟨b, 0, none⟩ v) := .of_grownBy (grownBy_setCell' W b v) (fun _ e => by cases e; exact hb)
theorem KeepsB.of_below {K : Nat → Prop} {n₀ : Nat} {W W' : World} (h : Below n₀ W W') (hK : ∀ k, K k → k < n₀) : KeepsB K W W' := ⟨h.size, fun k hk _ => h.block k (hK k hk)⟩

/-- The iterator's contract: xs comes, element by element; J k: k of them have come; Jx k: the round of the k-th has said 'no more'. -/
def SeqList {α : Type} (F : Fence) (n : Nat) (P : Program) (g : Nat) (lb : Array Value) (encs : α → Array Value) (Kp : World → World → Prop) (T : Nat → Prop) (xs : List α) (w : World) : Prop :=
  ∀ (l : Nat) (J Jx : Nat → World → Prop) (W : World), Below w.heap.size w W → AbidesTo T W.heap.size J → AbidesTo T W.heap.size Jx →
    (∀ k x W1, J k W1 → xs[k]? = some x → YieldAt F (n - 1) P l (encs x) W1 fun e W' =>
      (e = .returned (.bool true) ∧ J (k + 1) W' ∧ Kp W1 W') ∨ (e = .returned (.bool false) ∧ Jx (k + 1) W')) →
    J 0 W →
    CallsIn F n P g (#[.func (.yield l) #[] #[]] ++ lb) W fun e W' => (∃ v, e = .returned v) ∧ (J xs.length W' ∨ ∃ k, k ≤ xs.length ∧ Jx k W')

/-- How the body of a round may be left. -/
def listPost (B : Nat) (Kp : World → World → Prop) (I : Nat → World → Prop) (Ix : Code → Nat → World → Prop) (k : Nat) (W : World) : Exit → Act → World → Prop
  | .normal, _, W' => KeepsFrom B W W' ∧ Kp W W' ∧ I k W'
  | .ret, _, W' => KeepsFrom B W W' ∧ Ix .ret k W'
  | .exit id, _, W' => KeepsFrom B W W' ∧ Ix (.exit id) k W'
  | .goto t, _, W' => KeepsFrom B W W' ∧ Ix (.goto t) k W'
  | .panic _, _, _ => False
  | .outgrown, _, _ => False

variable {F : Fence} {n : Nat} {P : Program}

/-- The statement 'for x := range g { body }' over an iterator that has 'SeqList'. -/
theorem wpIn_rangeList {α : Type} {g : Operand} {ps : Array Tmp} {assign body : Code} {Q : Exit → Act → World → Prop} {a : Act} {w : World}
    (hro : F.round = none) (h1 : F.depth.isSome = true → 1 ≤ n) {gf : Nat} {lb : Array Value} (hg : a.eval g = .func (.func gf) #[] lb) (hFg : F.fn gf) (eg : ∀ args w, (callFunc gf args).run P w = .ok (.enter gf args) w)
    {encs : α → Array Value} {Kp : World → World → Prop} {T : Nat → Prop} {xs : List α} {w0 : World} (hseq : SeqList F (n - 1) P gf lb encs Kp T xs w0)
    (hKt : ∀ {A B C : World}, Kp A B → Kp B C → Kp A C) (hKb : ∀ (W : World) (l : Nat) (o o' : Obj), w.heap.size ≤ l → W.heap[l]? = some o → o.isCells = false → o.isWalk = false → Kp W (W.putObj l o'))
    (hT : ∀ r, T r → r < w.heap.size) (hb0 : Below w0.heap.size w0 w) (hps : ∀ x, (encs x).size = ps.size)
    (I : Nat → World → Prop) (Ix : Code → Nat → World → Prop) (hI : OwnTo T w.heap.size I) (hIx : ∀ c, OwnTo T w.heap.size (Ix c)) (h0 : I 0 w) (Ax : α → Act → World → Prop) (hAx : ∀ x a', OwnFrom w.heap.size (fun (_ : Unit) W => Ax x a' W))
    (hassign : ∀ (l : Nat) (k : Nat) (x : α) (W : World) (K : Act → World → Prop), I k W → (∀ a' W', KeepsFrom w.heap.size W W' → Kp W W' → I k W' → Ax x a' W' → K a' W') →
      assign.wpIn (F.inRound l) (n - 1 - 1) P (Exit.then K (fun _ _ _ => False)) { tmps := (ps.zip (encs x)).foldl (fun t (p, v) => t.setIfInBounds p v) a.tmps, defers := [] } W)
    (hbody : ∀ (l : Nat) (k : Nat) (x : α) (a' : Act) (W : World), w.heap.size ≤ l → (∃ r, W.heap[l]? = some (.loop r)) → I k W → Ax x a' W → xs[k]? = some x → body.wpIn (F.inRound l) (n - 1 - 1) P (listPost w.heap.size Kp I Ix (k + 1) W) a' W)
    (hdone : ∀ (D : Nat) (W : World), w.heap.size ≤ D → I xs.length W → W.heap[D]? = some (.deferred (some [])) → Q .normal { a with defers := { target := .collected D, args := #[] } :: a.defers } W)
    (hstop : ∀ (D : Nat) (c : Code) (k : Nat) (W : World), w.heap.size ≤ D → k ≤ xs.length → Ix c k W → W.heap[D]? = some (.deferred (some [])) → c.wpIn F n P Q { a with defers := { target := .collected D, args := #[] } :: a.defers } W) :
    (Code.rangeFunc g ps assign body).wpIn F n P Q a w := by
  refine wpIn_rangeFunc ?_
  intro fn hfn
  rw [hro]
  obtain ⟨rec, hrec⟩ : ∃ rec : LoopState → Option Code → Loop, rec = fun st pe => { state := st, pending := pe, fn, tmps := a.tmps, params := ps, assign, body, defers := w.heap.size } := ⟨_, rfl⟩
  obtain ⟨W1, hW1⟩ : ∃ W1, (w.alloc (.deferred (some []))).alloc (.loop (rec .ready none)) = W1 := ⟨_, rfl⟩
  have hsz : W1.heap.size = w.heap.size + 2 := by rw [← hW1]; simp
  have hL1 : W1.heap[w.heap.size + 1]? = some (.loop (rec .ready none)) := by
    rw [← hW1]; have := World.alloc_heap_new (w.alloc (.deferred (some []))) (.loop (rec .ready none)); rwa [World.size_alloc] at this
  have hK1 : W1.heap[w.heap.size]? = some (.deferred (some [])) := by
    rw [← hW1]; exact (Below.heap_alloc _ _ _ (by simp)).trans (World.alloc_heap_new w _)
  have hI1 : I 0 W1 := by rw [← hW1]; exact hI.from.alloc _ (hI.from.alloc _ h0)
  have hb1 : Below w0.heap.size w0 W1 := by
    rw [← hW1]; exact hb0.trans ((((Below.refl _ w).alloc (Nat.le_refl _) _).alloc (by simp) _).mono hb0.size)
  -- what the iterator does keeps the two blocks of book-keeping
  have hbook : ∀ {A B : World} {row : Option Nat} {j : Nat} {o : Obj}, A.grownBy B row → (∀ r, row = some r → T r ∨ (W1.heap.size ≤ r ∧ ∃ o : Obj, A.heap[r]? = some o ∧ o.isWalk = true)) →
      w.heap.size ≤ j → j < W1.heap.size → A.heap[j]? = some o → B.heap[j]? = some o := by
    intro A B row j o hg' hr hj hj' ho
    refine (hg'.block j (Array.getElem?_eq_some_iff.1 ho).1 (fun e => ?_)).trans ho
    rcases hr j e.symm with h | h
    · have := hT j h; omega
    · omega
  have hown : ∀ {A : World} {row : Option Nat}, (∀ r, row = some r → T r ∨ (W1.heap.size ≤ r ∧ ∃ o : Obj, A.heap[r]? = some o ∧ o.isWalk = true)) → (∀ r, row = some r → T r ∨ (w.heap.size ≤ r ∧ ∃ o : Obj, A.heap[r]? = some o ∧ o.isCells = false)) :=
    fun hr r e => (hr r e).imp id fun ⟨hB, o, ho, hw⟩ => ⟨by omega, o, ho, Obj.not_cells_of_walk hw⟩
  refine ⟨w.heap.size + 1, [{ target := .collected w.heap.size, args := #[] }], W1, { target := .fn (.func gf) lb, args := #[.func (.yield (w.heap.size + 1)) #[] #[]] }, W1, gf,
    #[.func (.yield (w.heap.size + 1)) #[] #[]] ++ lb, W1, ?_, ?_, ?_, ?_, h1, ?_⟩
  · rw [← hW1, hrec]; exact run_enterLoop_outer _ _ _ _ _
  · simp only [resolve, hg]
    simp [go_sem]
  · intro f' hf'; simp [Target.leads] at hf'; subst hf'; exact hFg
  · simp [invoke, go_sem, eg]
  · refine (hseq (w.heap.size + 1)
      (fun k W => I k W ∧ W.heap[w.heap.size + 1]? = some (.loop (rec .ready none)) ∧ W.heap[w.heap.size]? = some (.deferred (some [])))
      (fun k W => ∃ c, Ix c k W ∧ W.heap[w.heap.size + 1]? = some (.loop (rec .done (some c))) ∧ W.heap[w.heap.size]? = some (.deferred (some [])))
      W1 hb1
      (fun s A B row hs hg' hr => ⟨hI s A B row hs.1 hg' (hown hr), hbook hg' hr (by omega) (by omega) hs.2.1, hbook hg' hr (by omega) (by omega) hs.2.2⟩)
      (fun s A B row hs hg' hr => by
        obtain ⟨c, hc, hl, hk⟩ := hs
        exact ⟨c, hIx c s A B row hc hg' (hown hr), hbook hg' hr (by omega) (by omega) hl, hbook hg' hr (by omega) (by omega) hk⟩)
      ?_ ⟨hI1, hL1, hK1⟩).mono ?_
    · -- one round
      rintro k x W ⟨hi, hl, hk⟩ hx
      have hy := run_yield (P := P) (args := encs x) hl (by rw [hrec]; exact hps x)
      rw [hrec] at hy
      refine ⟨fn, _, assign, body, hy, roundIn_of_wpIn hfn (hassign _ k x W _ hi ?_)⟩
      clear hy
      intro a' V hkf hkp hiV hax
      have hlV := hkf.same _ _ (by omega) hl rfl
      have hkV := hkf.same _ _ (Nat.le_refl _) hk rfl
      have hltV : w.heap.size + 1 < V.heap.size := (Array.getElem?_eq_some_iff.1 hlV).1
      refine ⟨_, run_beginRound hlV (by rw [hrec]), ?_⟩
      obtain ⟨X, hX⟩ : ∃ X, V.putObj (w.heap.size + 1) (.loop { rec .ready none with state := .busy }) = X := ⟨_, rfl⟩
      have hlX : X.heap[w.heap.size + 1]? = some (.loop { rec .ready none with state := .busy }) := by rw [← hX]; exact World.putObj_heap_same hltV
      have hkX : X.heap[w.heap.size]? = some (.deferred (some [])) := by rw [← hX]; exact (World.putObj_heap_other (by omega)).trans hkV
      have hwX : Kp V X := by rw [← hX]; exact hKb _ _ _ _ (by omega) hlV rfl rfl
      have hiX : I k X := by rw [← hX]; exact hI.from.putObj _ hiV (by omega) hlV rfl
      have haX : Ax x a' X := by rw [← hX]; exact (hAx x a').putObj (s := ()) _ hax (by omega) hlV rfl
      rw [hX]
      refine wpIn_mono (hbody _ k x a' _ (by omega) ⟨_, hlX⟩ hiX haX hx) ?_
      have fin : ∀ (jump : Option Code) (Y : World), KeepsFrom w.heap.size X Y →
          ∃ Z, Z = Y.putObj (w.heap.size + 1) (.loop (rec (if jump.isNone then .ready else .done) jump)) ∧ (Instr.endRound (w.heap.size + 1) jump).run P Y = .ok (.bool jump.isNone) Z ∧
          Y.heap[w.heap.size + 1]? = some (.loop { rec .ready none with state := .busy }) ∧
          Z.heap[w.heap.size + 1]? = some (.loop (rec (if jump.isNone then .ready else .done) jump)) ∧ Z.heap[w.heap.size]? = some (.deferred (some [])) := fun jump Y hY => by
        have hl3 := hY.same _ _ (by omega) hlX rfl
        have he := run_endRound (P := P) jump hl3
        rw [hrec] at he
        exact ⟨_, rfl, by rw [hrec]; exact he, hl3, World.putObj_heap_same (Array.getElem?_eq_some_iff.1 hl3).1, (World.putObj_heap_other (by omega)).trans (hY.same _ _ (Nat.le_refl _) hkX rfl)⟩
      rintro e a3 Y hp
      cases e with
      | normal =>
        obtain ⟨hk3, hkp3, hi3⟩ := hp
        obtain ⟨Z, hZ, hr, hl3, hl4, hk4⟩ := fin none Y hk3
        refine ⟨_, _, hr, .inl ⟨rfl, ⟨?_, hl4, hk4⟩, hKt hkp (hKt (hKt hwX hkp3) ?_)⟩⟩
        · rw [hZ]; exact hI.from.putObj _ hi3 (by omega) hl3 rfl
        · rw [hZ]; exact hKb _ _ _ _ (by omega) hl3 rfl rfl
      | ret =>
        obtain ⟨hk3, hi3⟩ := hp
        obtain ⟨Z, hZ, hr, hl3, hl4, hk4⟩ := fin (some .ret) Y hk3
        exact ⟨_, _, hr, .inr ⟨rfl, .ret, by rw [hZ]; exact (hIx _).from.putObj _ hi3 (by omega) hl3 rfl, hl4, hk4⟩⟩
      | exit id =>
        obtain ⟨hk3, hi3⟩ := hp
        obtain ⟨Z, hZ, hr, hl3, hl4, hk4⟩ := fin (some (.exit id)) Y hk3
        exact ⟨_, _, hr, .inr ⟨rfl, .exit id, by rw [hZ]; exact (hIx _).from.putObj _ hi3 (by omega) hl3 rfl, hl4, hk4⟩⟩
      | goto t =>
        obtain ⟨hk3, hi3⟩ := hp
        obtain ⟨Z, hZ, hr, hl3, hl4, hk4⟩ := fin (some (.goto t)) Y hk3
        exact ⟨_, _, hr, .inr ⟨rfl, .goto t, by rw [hZ]; exact (hIx _).from.putObj _ hi3 (by omega) hl3 rfl, hl4, hk4⟩⟩
      | panic ch => exact hp.elim
      | outgrown => exact hp.elim
    · -- behind the iterator
      rintro e W2 ⟨⟨v, rfl⟩, (⟨hi, hl, hk⟩ | ⟨k, hle, c, hi, hl, hk⟩)⟩
      · have he := run_endLoop (P := P) hl (by rw [hrec]; simp)
        rw [hrec] at he
        exact ⟨none, _, he, hdone _ _ (Nat.le_refl _) (hI.from.putObj _ hi (by omega) hl rfl) ((World.putObj_heap_other (by omega)).trans hk)⟩
      · have he := run_endLoop (P := P) hl (by rw [hrec]; simp)
        rw [hrec] at he
        exact ⟨some c, _, he, hstop _ c k _ (Nat.le_refl _) hle ((hIx c).from.putObj _ hi (by omega) hl rfl) ((World.putObj_heap_other (by omega)).trans hk)⟩

/-- A contract met in a walk at the wide fence. -/
theorem wide_call {n m : Nat} {P : Program} {f : FuncId} {args : Array Value} {w : World} {R R' : Ending → World → Prop} (h : Calls P f args w R) (hr : ∀ e w', R e w' → R' e w') :
    Fence.wide.fn f ∧ (Fence.wide.depth.isSome = true → 1 ≤ n) ∧ CallsIn Fence.wide m P f args w R' :=
  ⟨trivial, fun h => absurd h (by decide), (callsIn_wide.2 h).mono hr⟩
/-- Within a round. -/
theorem wide_call_in {n m l : Nat} {P : Program} {f : FuncId} {args : Array Value} {w : World} {R R' : Ending → World → Prop} (h : Calls P f args w R) (hr : ∀ e w', R e w' → R' e w') :
    (Fence.wide.inRound l).fn f ∧ ((Fence.wide.inRound l).depth.isSome = true → 1 ≤ n) ∧ CallsIn (Fence.wide.inRound l) m P f args w R' :=
  ⟨trivial, fun h => absurd (show Fence.wide.depth.isSome = true from h) (by decide), CallsIn.inRound l ((callsIn_wide.2 h).mono hr)⟩
/-- A call of yield at the wide fence. -/
theorem wide_round {n m l : Nat} {P : Program} {f : FuncId} {tmps : Array Value} {assign body : Code} {w : World} {R R' : Ending → World → Prop} (h : RoundIn Fence.wide m P l f tmps assign body w R) (hr : ∀ e w', R e w' → R' e w') :
    (Fence.wide.depth.isSome = true → 1 ≤ n) ∧ RoundIn Fence.wide m P l f tmps assign body w R' :=
  ⟨fun h => absurd h (by decide), h.mono hr⟩
end Go.Proofs.YtffhfllikamccaaGreatDoor
