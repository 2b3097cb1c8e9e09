/-
  How changes lie in memory that a call made itself: a row of three cells each, their bytes in rows of their own; bytes.Clone in these words.
-/
import Derived.Test.YtffhfllikamccaaGreatDoorTSame
namespace Go.Proofs.YtffhfllikamccaaGreatDoor
open Go Go.RowKit Go.Shelf Go.Proofs

/-- A change in memory. -/
structure DX where
  k : Int
  p : ByteArray
  A : Option Addr
  c : Nat
  b : Bs
def DX.dl (x : DX) : Dl := ⟨x.k, x.p.data.toList, x.b⟩
def DX.cs (x : DX) : List Value := [.int .i64 x.k, .string x.p, .slice x.A x.b.length x.c]
def dcells (l : List DX) : List Value := l.flatMap DX.cs
theorem dcells_snoc (l : List DX) (x : DX) : dcells (l ++ [x]) = dcells l ++ x.cs := by unfold dcells; rw [List.flatMap_append]; simp

/-- Bytes in a row of their own. -/
def BytesOwn (W : World) (A : Option Addr) (b : Bs) : Prop := 0 < b.length → ∃ g cur, A = some ⟨g, 0, none⟩ ∧ W.heap[g]? = some (.cells cur 5 (0, 0)) ∧ ∀ i, i < b.length → W.cell? ⟨g, i, none⟩ = some (.int .u8 ((numsB b).getD i 0))
theorem BytesOwn.nil (W : World) (A : Option Addr) : BytesOwn W A [] := fun h => absurd h (by simp)
theorem BytesOwn.at_ {W : World} {A : Option Addr} {b : Bs} (h : BytesOwn W A b) : BytesAt W A b := fun hn => by
  obtain ⟨g, cur, e, _, hc⟩ := h hn
  exact ⟨g, 0, e, fun i hi => by rw [Nat.zero_add]; exact hc i hi⟩
theorem BytesOwn.keep {W W' : World} {A : Option Addr} {b : Bs} (h : BytesOwn W A b) (hk : ∀ (g : Nat) (cur : Array Value), W.heap[g]? = some (Obj.cells cur 5 (0, 0)) → W'.heap[g]? = W.heap[g]?) : BytesOwn W' A b := fun hn => by
  obtain ⟨g, cur, e, hh, hc⟩ := h hn
  have hs := hk g cur hh
  exact ⟨g, cur, e, hs.trans hh, fun i hi => (World.cell?_of_block (a := ⟨g, i, none⟩) hs).trans (hc i hi)⟩
theorem BytesOwn.below {W W' : World} {A : Option Addr} {b : Bs} (h : BytesOwn W A b) (hb : Below W.heap.size W W') : BytesOwn W' A b := h.keep fun g _ hh => hb.block g (Array.getElem?_eq_some_iff.1 hh).1

theorem bclone_any (A : Option Addr) (c : Nat) (b : Bs) (w : World) (h : BytesAt w A b) (hl : b.length ≤ 1000000) :
    Calls Tryz.prog 37 #[.slice A b.length c] w fun e w' => ∃ (A' : Option Addr) (c' : Nat), e = .returned (.slice A' b.length c') ∧ BytesOwn w' A' b ∧ Below w.heap.size w w' := by
  cases A with
  | none =>
    have hn : b = [] := by
      cases b with
      | nil => rfl
      | cons x r => obtain ⟨g, o, e, _⟩ := h (by simp); cases e
    subst hn
    refine (Tryz.bytes_Clone_nil _ _ w).mono ?_
    rintro e w' ⟨rfl, rfl⟩
    exact ⟨none, 0, rfl, BytesOwn.nil _ _, Below.refl _ _⟩
  | some a =>
    refine (Tryz.bytes_Clone_at a b.length c (numsB b) w (numsB_length b) (by omega) (fun i hi => ?_)).mono ?_
    · obtain ⟨g, o, e, hc⟩ := h (by omega)
      cases e
      rw [Go.WideShapes.add_plain]
      exact hc i hi
    · rintro e w' ⟨v', rfl, hown, _, hb⟩
      rcases hown.2 with ⟨rfl, hn⟩ | ⟨g, cap, cur, rfl, _, hh, _, _, _, _⟩
      · have : b = [] := List.eq_nil_of_length_eq_zero hn
        subst this
        exact ⟨none, 0, rfl, BytesOwn.nil _ _, hb⟩
      · refine ⟨some ⟨g, 0, none⟩, cap, rfl, fun _ => ⟨g, cur, rfl, hh, fun i hi => ?_⟩, hb⟩
        have := hown.cells (g := g) rfl i (.int .u8 ((numsB b).getD i 0)) (by
          rw [List.getElem?_map]
          have hl' : i < (numsB b).length := by rw [numsB_length]; exact hi
          simp [List.getD, List.getElem?_eq_getElem hl'])
        rw [Go.WideShapes.add_plain, Nat.zero_add] at this
        exact this

theorem rowT_ge {w : World} {b e size n g : Nat} {v : Value} {xs : List Value} (h : w.ownsRow b e size v n xs) (hg : v.ownBlock = some g) : b ≤ g ∧ ∃ cur : Array Value, w.heap[g]? = some (Obj.cells cur e (0, 0)) := by
  rcases h.2 with ⟨rfl, _⟩ | ⟨g', cap, cur, rfl, hb, hh, _⟩
  · simp [Value.ownBlock] at hg
  · have : g' = g := by simpa [Value.ownBlock] using hg
    subst this
    exact ⟨hb, cur, hh⟩
/-- A row of changes of the call's own, from block 'base' on. -/
structure DeltasAt (base : Nat) (W : World) (v : Value) (l : List DX) : Prop where
  own : W.ownsRow base 62 3 v l.length (dcells l)
  bod : ∀ x ∈ l, BytesOwn W x.A x.b
theorem DeltasAt.nil (base : Nat) (W : World) : DeltasAt base W (.slice none 0 0) [] := ⟨World.ownsRow_nil _ _ _ _, fun x hx => by cases hx⟩
theorem DeltasAt.row {base : Nat} {W : World} {v : Value} {l : List DX} (h : DeltasAt base W v l) {g : Nat} (hg : v.ownBlock = some g) : base ≤ g ∧ ∃ cur : Array Value, W.heap[g]? = some (Obj.cells cur 62 (0, 0)) := by
  obtain ⟨h1, cur, h2⟩ := rowT_ge h.own hg
  exact ⟨h1, cur, h2⟩
theorem DeltasAt.keepRow {base : Nat} {W W' : World} {v : Value} {l : List DX} {row : Option Nat} (h : DeltasAt base W v l) (hg : W.grownBy W' row) (h1 : ∀ (g : Nat), row = some g → (∀ (cur : Array Value), W.heap[g]? ≠ some (Obj.cells cur 62 (0, 0))) ∧ ∀ (cur : Array Value), W.heap[g]? ≠ some (Obj.cells cur 5 (0, 0))) : DeltasAt base W' v l := by
  refine ⟨h.own.kept hg ?_, fun x hx => (h.bod x hx).keep fun g cur hh => hg.block g (Array.getElem?_eq_some_iff.1 hh).1 (fun e => (h1 g e.symm).2 cur hh)⟩
  cases e : v.ownBlock with
  | none => exact .inl rfl
  | some g =>
    refine .inr fun e2 => ?_
    obtain ⟨_, cur, hh⟩ := h.row e
    exact (h1 g e2.symm).1 cur hh
theorem DeltasAt.below {base : Nat} {W W' : World} {v : Value} {l : List DX} (h : DeltasAt base W v l) (hb : Below W.heap.size W W') : DeltasAt base W' v l := h.keepRow (row := none) (grownB hb) (fun _ e => by cases e)
theorem DeltasAt.keepNC {base : Nat} {W W' : World} {v : Value} {l : List DX} {row : Option Nat} (h : DeltasAt base W v l) (hg : W.grownBy W' row) (hr : ∀ r, row = some r → ∃ o : Obj, W.heap[r]? = some o ∧ o.isCells = false) : DeltasAt base W' v l :=
  h.keepRow hg fun g e => by
    obtain ⟨o, ho, hc⟩ := hr g e
    constructor <;> (intro cur hh; rw [ho] at hh; cases hh; cases hc)
theorem DeltasAt.push {base : Nat} {W W' : World} {v v' : Value} {l : List DX} {x : DX} (h : DeltasAt base W v l) (hx : BytesOwn W x.A x.b) (ho : W'.ownsRow base 62 3 v' (l.length + 1) (dcells l ++ x.cs)) (hg : W.grownBy W' v.ownBlock) : DeltasAt base W' v' (l ++ [x]) := by
  have hk : ∀ {A : Option Addr} {b : Bs}, BytesOwn W A b → BytesOwn W' A b := fun hb => hb.keep fun g cur hh => hg.block g (Array.getElem?_eq_some_iff.1 hh).1 fun e => by
    obtain ⟨_, cur', hh'⟩ := h.row e.symm
    rw [hh] at hh'
    cases hh'
  refine ⟨by rw [dcells_snoc]; simpa using ho, fun y hy => ?_⟩
  rcases List.mem_append.1 hy with hy | hy
  · exact hk (h.bod y hy)
  · rw [List.mem_singleton] at hy; subst hy; exact hk hx
/-- A store into a box of another kind. -/
theorem DeltasAt.box {base : Nat} {W : World} {v : Value} {l : List DX} (h : DeltasAt base W v l) {bx t : Nat} {u : Value} (hb : Boxed W bx t u) (h1 : t ≠ 62) (h2 : t ≠ 5) (u' : Value) : DeltasAt base (W.setCell ⟨bx, 0, none⟩ u') v l :=
  h.keepRow (grownBy_setCell' W bx u') fun g e => by
    cases e
    constructor <;> (intro cur hh; have := hb.symm.trans hh; cases this)
    · exact h1 rfl
    · exact h2 rfl

theorem delta_info : (Tryz.prog.info? 62).map (fun i => (i.zero, i.size, i.bytes)) = some (some (.agg #[.int .i64 0, .string ⟨#[]⟩, .slice none 0 0]), 3, 48) := by kernel_rfl
theorem step_wanted {P : Program} {ops : Array Oper} {o : Oper} {a : Act} {w : World} {K : Act → World → Prop} {Q : Exit → Act → World → Prop} {E : Prop} (hgd : o.guard = none) (h : Oper.wp P o a w K Q) : if Region.wanted o (yielded ops a.tmps) = true then Oper.wp P o a w K Q else E := by
  rw [if_pos (by simp [Region.wanted, hgd])]
  exact h
theorem DX.one {x : DX} : ∀ u ∈ x.cs, u.oneCell' = true := by
  intro u hu
  unfold DX.cs at hu
  simp only [List.mem_cons, List.mem_nil_iff, or_false] at hu
  rcases hu with rfl | rfl | rfl <;> rfl

/-- Within a round that adds a change: the box (of block w.heap.size) holds v yet, the row l. -/
structure Mid (w W Wc : World) (v : Value) (l : List DX) : Prop where
  box : Boxed Wc w.heap.size 39 v
  del : DeltasAt (w.heap.size + 1) Wc v l
  bel : Below w.heap.size w Wc
  oth : KeepsOthers W Wc
theorem keepsO_below {W W' : World} (h : Below W.heap.size W W') : KeepsOthers W W' := ⟨h.size, fun k _o hk _ => (h.block k (Array.getElem?_eq_some_iff.1 hk).1).trans hk⟩
theorem Mid.below {w W Wc Wd : World} {v : Value} {l : List DX} (h : Mid w W Wc v l) (hb : Below Wc.heap.size Wc Wd) : Mid w W Wd v l :=
  ⟨(hb.block _ h.box.lt).trans h.box, h.del.below hb, h.bel.trans (hb.mono h.bel.size), h.oth.trans (keepsO_below hb)⟩
theorem Mid.drew {w W Wc : World} {v : Value} {l : List DX} (h : Mid w W Wc v l) : Mid w W Wc.drew v l := h.below (below_drew0 _)
theorem Mid.alloc {w W Wc : World} {v : Value} {l : List DX} (h : Mid w W Wc v l) (o : Obj) : Mid w W (Wc.alloc o) v l := h.below ((Below.refl _ _).alloc (Nat.le_refl _) o)
/-- Behind the append: the box as it was, the row with one change more. -/
theorem Mid.append {w W Wc Wd : World} {v v' : Value} {l : List DX} {x : DX} (h : Mid w W Wc v l) (hx : BytesOwn Wc x.A x.b) (ho : Wd.ownsRow (w.heap.size + 1) 62 3 v' (l.length + 1) (dcells l ++ x.cs)) (hg : Wc.grownBy Wd v.ownBlock) :
    Boxed Wd w.heap.size 39 v ∧ DeltasAt (w.heap.size + 1) Wd v' (l ++ [x]) ∧ Below w.heap.size w Wd ∧ KeepsOthers W Wd := by
  refine ⟨(hg.block _ h.box.lt (fun e => ?_)).trans h.box, h.del.push hx ho hg, h.bel.grown hg h.bel.size (fun g e => ?_), h.oth.trans (KeepsOthers.of_grownBy hg fun j o e hj => ?_)⟩
  · have := (h.del.row e.symm).1; omega
  · have := (h.del.row e).1; omega
  · obtain ⟨_, cur, hh⟩ := h.del.row e
    rw [hh] at hj; cases hj; rfl
theorem Mid.store {w W Wd : World} {v v' : Value} {l : List DX} (h1 : Boxed Wd w.heap.size 39 v) (h2 : DeltasAt (w.heap.size + 1) Wd v' l) (h3 : Below w.heap.size w Wd) (h4 : KeepsOthers W Wd) : Mid w W (Wd.setCell ⟨w.heap.size, 0, none⟩ v') v' l :=
  ⟨h1.set v', h2.box h1 (by decide) (by decide) v', h3.setCell (p := ⟨w.heap.size, 0, none⟩) (Nat.le_refl _) _, h4.trans (KeepsOthers.setCell _ _ _)⟩
end Go.Proofs.YtffhfllikamccaaGreatDoor
