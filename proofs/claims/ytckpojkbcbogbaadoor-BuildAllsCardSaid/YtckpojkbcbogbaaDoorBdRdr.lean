/-
  The reader of a BUILD file in memory; what its acts turn. · What the acts of the reader store: a file; what is stood on. (gen_bdlay.py) · What the reader's act target stores: a name, a target more, the place of the target at hand.
-/
import Derived.Test.YtckpojkbcbogbaaDoorBdMem
import Derived.Test.YtckpojkbcbogbaaDoorBdNamed
import Derived.Test.YtckpojkbcbogbaaDoorCaught
import Derived.Maps.OwnSet
import Derived.Deep.AppendLies
namespace Go.Proofs.YtckpojkbcbogbaaDoor
open Go Go.RowKit Go.Shelf Go.Proofs Go.ChangeMaps Go.Maps Go.WideMaps

theorem target_info : (Tryd.prog.info? 37).map (fun i => (i.zero, i.size, i.bytes)) = some (some (.agg #[.string ⟨#[]⟩, .slice none 0 0, .slice none 0 0]), 3, 64) := by kernel_rfl
def gcells (l : List TX) : List Value := l.flatMap TX.cs
theorem gcells_cons (x : TX) (l : List TX) : gcells (x :: l) = .string x.n :: .slice x.A x.s.length x.c :: .slice x.B x.d.length x.b :: gcells l := rfl
theorem gcells_append (a b : List TX) : gcells (a ++ b) = gcells a ++ gcells b := by unfold gcells; rw [List.flatMap_append]
theorem gcells_length (l : List TX) : (gcells l).length = l.length * 3 := by
  induction l with
  | nil => rfl
  | cons x l ih => rw [gcells_cons]; simp only [List.length_cons, ih]; omega
theorem gcells_at (l : List TX) (i : Nat) (x : TX) (h : l[i]? = some x) : (gcells l)[i * 3]? = some (.string x.n) ∧ (gcells l)[i * 3 + 1]? = some (.slice x.A x.s.length x.c) ∧ (gcells l)[i * 3 + 2]? = some (.slice x.B x.d.length x.b) := by
  induction l generalizing i with
  | nil => simp at h
  | cons y l ih => cases i with
    | zero => simp at h; subst h; exact ⟨rfl, rfl, rfl⟩
    | succ i =>
      obtain ⟨h1, h2, h3⟩ := ih i (by simpa using h)
      rw [gcells_cons, show (i + 1) * 3 = i * 3 + 1 + 1 + 1 from by omega]
      exact ⟨by simpa using h1, by simpa using h2, by simpa using h3⟩
theorem gcells_set (M : List TX) (x y : TX) (k : Nat) (u : Value) (hk : x.cs.set k u = y.cs) : (gcells (M ++ [x])).set (M.length * 3 + k) u = gcells (M ++ [y]) := by
  rw [gcells_append, gcells_append, ← gcells_length, List.set_append_right _ _ (Nat.le_add_right _ _), Nat.add_sub_cancel_left]
  rw [show gcells [x] = x.cs from by simp [gcells], show gcells [y] = y.cs from by simp [gcells], hk]

/-- The map in block mb has these names. -/
def NamesAt (w : World) (mb n : Nat) (K : List Bs) : Prop := ∃ (k : Nat) (D : DataW Unit), w.ownsMap Tryd.prog 9 unitElem mb k D ∧ k ≤ n ∧ ∀ s : Bs, Maps.has D (.string s) = true ↔ s ∈ K
theorem NamesAt.keep {w w' : World} {mb n : Nat} {K : List Bs} (h : NamesAt w mb n K) (hk : ∀ o, w.heap[mb]? = some o → w'.heap[mb]? = some o) : NamesAt w' mb n K := by
  obtain ⟨k, D, ⟨es, clock, he, F, hs, hD⟩, h2, h3⟩ := h
  exact ⟨k, D, ⟨es, clock, hk _ he, F, hs, hD⟩, h2, h3⟩
theorem NamesAt.map {w : World} {mb n : Nat} {K : List Bs} (h : NamesAt w mb n K) : ∃ es clock, w.heap[mb]? = some (.map es clock) := by
  obtain ⟨_, _, ⟨es, clock, he, _⟩, _⟩ := h
  exact ⟨es, clock, he⟩
theorem NamesAt.put {W : World} {mb k n : Nat} {K : List Bs} {D : DataW Unit} {s : Bs} (h1 : W.ownsMap Tryd.prog 9 unitElem mb (k + 1) (D.put (.string s) (.agg []))) (hD : Maps.IsMap D) (hk : k ≤ n) (h3 : ∀ s : Bs, Maps.has D (.string s) = true ↔ s ∈ K) : NamesAt W mb (n + 1) (K ++ [s]) := by
  have hkl : WideAt.IsKeyLit (.string s) := by simp [WideAt.IsKeyLit]
  refine ⟨k + 1, _, h1, by omega, fun t => ?_⟩
  by_cases e : t = s
  · subst e
    rw [Maps.has_put_same hD hkl]; simp
  · rw [Maps.has_put_other (fun h => e (by simpa using h)), h3 t]
    simp [e]

def blkA (A : Option Addr) : Option Nat := A.map (·.block)
theorem own_blk (A : Option Addr) (n c : Nat) : (Value.slice A n c).ownBlock = blkA A := by cases A <;> rfl
theorem StrsT.keepA {base : Nat} {w w' : World} {A : Option Addr} {l : List Bs} (h : StrsT base w A l) (hk : ∀ j cur, base ≤ j → blkA A = some j → w.heap[j]? = some (.cells cur 9 (0, 0)) → w'.heap[j]? = some (.cells cur 9 (0, 0))) : StrsT base w' A l := fun hn => by
  obtain ⟨g, o, cur, e, hb, hg, hc⟩ := h hn
  exact ⟨g, o, cur, e, hb, hk g _ hb (by rw [e]; rfl) hg, hc⟩
theorem ownsRow_keepA {w w' : World} {base e size n : Nat} {v : Value} {xs : List Value} (h : w.ownsRow base e size v n xs) (hk : ∀ j o, base ≤ j → v.ownBlock = some j → w.heap[j]? = some o → w'.heap[j]? = some o) : w'.ownsRow base e size v n xs :=
  ⟨h.1, h.2.imp id fun ⟨g, cap, cur, hv, hb, hg, r⟩ => ⟨g, cap, cur, hv, hb, hk g _ hb (by rw [hv]; rfl) hg, r⟩⟩
theorem ownsRow_strsT {base n c : Nat} {w : World} {A : Option Addr} {l : List Bs} (h : w.ownsRow base 9 1 (.slice A n c) n (strVs l)) (hn : n = l.length) : StrsT base w A l ∧ l.length ≤ c ∧ c ≤ maxLen := by
  subst hn
  rcases h.2 with ⟨h', h0⟩ | ⟨g, cap, cur, h', hb, hg, hnc, hcm, _, ht⟩
  · simp only [Value.slice.injEq] at h'
    obtain ⟨rfl, _, rfl⟩ := h'
    exact ⟨fun hp => absurd hp (by omega), by omega, by unfold maxLen; omega⟩
  · simp only [Value.slice.injEq, true_and] at h'
    obtain ⟨rfl, rfl⟩ := h'
    refine ⟨fun _ => ⟨g, 0, cur, rfl, hb, hg, fun i p hp => ?_⟩, hnc, hcm⟩
    have hi : i < l.length := (List.getElem?_eq_some_iff.1 hp).1
    have h2 : (strVs l)[i]? = some (strV p) := by unfold strVs; rw [List.getElem?_map, hp]; rfl
    rw [← ht, List.getElem?_take_of_lt (by omega)] at h2
    rw [Nat.zero_add]
    rw [Array.getElem?_toList] at h2
    exact h2

/-- Texts that are read only. -/
structure TgT (base : Nat) (w : World) (x : TX) : Prop where
  s : StrsT base w x.A x.s
  sc : x.s.length ≤ x.c
  cm : x.c ≤ maxLen
  d : StrsT base w x.B x.d
  dc : x.d.length ≤ x.b
  bm : x.b ≤ maxLen
  lt : ∀ j, blkA x.A = some j ∨ blkA x.B = some j → j < w.heap.size
theorem TgT.ok {base : Nat} {w : World} {x : TX} (h : TgT base w x) : TgOk w x := ⟨h.s.at_, h.sc, h.cm, h.d.at_, h.dc, h.bm⟩
theorem TgT.keep {base : Nat} {w w' : World} {x : TX} (h : TgT base w x) (hs : w.heap.size ≤ w'.heap.size) (hk : ∀ j cur, base ≤ j → blkA x.A = some j ∨ blkA x.B = some j → w.heap[j]? = some (.cells cur 9 (0, 0)) → w'.heap[j]? = some (.cells cur 9 (0, 0))) : TgT base w' x :=
  ⟨h.s.keepA fun j o hb hj ho => hk j o hb (.inl hj) ho, h.sc, h.cm, h.d.keepA fun j o hb hj ho => hk j o hb (.inr hj) ho, h.dc, h.bm, fun j hj => Nat.lt_of_lt_of_le (h.lt j hj) hs⟩
/-- Texts that grow: the target at hand. -/
structure TgL (base : Nat) (w : World) (x : TX) : Prop where
  s : w.ownsRow base 9 1 (.slice x.A x.s.length x.c) x.s.length (strVs x.s)
  d : w.ownsRow base 9 1 (.slice x.B x.d.length x.b) x.d.length (strVs x.d)
  ne : ∀ g, blkA x.A = some g → blkA x.B ≠ some g
theorem TgL.ro {base : Nat} {w : World} {x : TX} (h : TgL base w x) : TgT base w x := by
  obtain ⟨a1, a2, a3⟩ := ownsRow_strsT h.s rfl
  obtain ⟨b1, b2, b3⟩ := ownsRow_strsT h.d rfl
  refine ⟨a1, a2, a3, b1, b2, b3, fun j hj => ?_⟩
  rcases hj with hj | hj
  · obtain ⟨_, cur, hc⟩ := row_ge h.s ((own_blk _ _ _).trans hj)
    exact (Array.getElem?_eq_some_iff.1 hc).1
  · obtain ⟨_, cur, hc⟩ := row_ge h.d ((own_blk _ _ _).trans hj)
    exact (Array.getElem?_eq_some_iff.1 hc).1
/-- No row of x is one of y's. -/
def apartT (x y : TX) : Prop := ∀ g, blkA y.A = some g ∨ blkA y.B = some g → blkA x.A ≠ some g ∧ blkA x.B ≠ some g
/-- Where the last one is. -/
def endA : Option Addr → Nat → Option Addr
  | some a, k + 1 => some ⟨a.block, a.off + k * 3, none⟩
  | _, _ => none
/-- The reader: its block R, the map m of names; what it has read so far. -/
structure RdO (base R m : Nat) (dir : ByteArray) (L : List TX) (K : List Bs) (W : World) : Prop where
  box : ∃ A c, W.heap[R]? = some (.cells #[.pointer (endA A L.length), .string dir, .slice A L.length c, .map (some m)] 70 (0, 0)) ∧ W.ownsRow base 37 3 (.slice A L.length c) L.length (gcells L)
  own : ∀ x ∈ L, TgT base W x
  last : ∀ M x, L = M ++ [x] → TgL base W x ∧ ∀ y ∈ M, apartT y x
  names : NamesAt W m K.length K
theorem RdO.kept {base R m : Nat} {dir : ByteArray} {L : List TX} {K : List Bs} {W W' : World} (h : RdO base R m dir L K W) (hs : W.heap.size ≤ W'.heap.size) (hk : ∀ j o, W.heap[j]? = some o → j = R ∨ j = m ∨ base ≤ j → W'.heap[j]? = some o) : RdO base R m dir L K W' := by
  obtain ⟨A, c, h1, h2⟩ := h.box
  refine ⟨⟨A, c, hk _ _ h1 (.inl rfl), ownsRow_keepA h2 fun j o hb _ ho => hk j o ho (.inr (.inr hb))⟩, fun x hx => (h.own x hx).keep hs fun j o hb _ ho => hk j _ ho (.inr (.inr hb)), fun M x e => ?_, h.names.keep fun o ho => hk _ o ho (.inr (.inl rfl))⟩
  obtain ⟨hl, ha⟩ := h.last M x e
  exact ⟨⟨ownsRow_keepA hl.s fun j o hb _ ho => hk j o ho (.inr (.inr hb)), ownsRow_keepA hl.d fun j o hb _ ho => hk j o ho (.inr (.inr hb)), hl.ne⟩, ha⟩
theorem RdO.below {base R m : Nat} {dir : ByteArray} {L : List TX} {K : List Bs} {W W' : World} (h : RdO base R m dir L K W) (hb : Below W.heap.size W W') : RdO base R m dir L K W' := h.kept hb.size fun j _ ho _ => (hb.block j (Array.getElem?_eq_some_iff.1 ho).1).trans ho
/-- What it has read, as a slice. -/
theorem RdO.slice {base R m : Nat} {dir : ByteArray} {L : List TX} {K : List Bs} {W : World} (h : RdO base R m dir L K W) : ∃ A c, W.heap[R]? = some (.cells #[.pointer (endA A L.length), .string dir, .slice A L.length c, .map (some m)] 70 (0, 0)) ∧ TgsAt W A c L := by
  obtain ⟨A, c, h1, h2⟩ := h.box
  refine ⟨A, c, h1, ?_⟩
  rcases h2.2 with ⟨h', h0⟩ | ⟨g, cap, cur, h', hbg, hgb, hc, hcm, _, _⟩
  · obtain rfl : L = [] := List.eq_nil_of_length_eq_zero h0
    simp only [Value.slice.injEq] at h'
    exact TgsAt.nil _ _ _ (by unfold maxLen; omega)
  · simp only [Value.slice.injEq, true_and] at h'
    obtain ⟨rfl, rfl⟩ := h'
    refine ⟨hc, hcm, fun _ => ⟨g, 0, rfl, fun i x hx => ?_⟩, fun x hx => (h.own x hx).ok⟩
    obtain ⟨a1, a2, a3⟩ := gcells_at L i x hx
    have b1 := World.ownsRow.cells h2 (g := g) rfl _ _ a1
    have b2 := World.ownsRow.cells h2 (g := g) rfl _ _ a2
    have b3 := World.ownsRow.cells h2 (g := g) rfl _ _ a3
    rw [Go.WideShapes.add_plain, Nat.zero_add] at b1 b2 b3
    rw [Nat.zero_add]
    exact ⟨b1, b2, b3⟩

/-- Only the reader, its map, rows of targets and of texts turn. -/
structure TurnR (base R m : Nat) (W W' : World) : Prop where
  os : W'.os = W.os
  tape : W'.tape = W.tape
  output : W'.output = W.output
  size : W.heap.size ≤ W'.heap.size
  low : ∀ j, j < base → j < W.heap.size → j ≠ R → j ≠ m → W'.heap[j]? = W.heap[j]?
  same : ∀ j o, W.heap[j]? = some o → j ≠ R → j ≠ m → (∀ cur fr, o ≠ .cells cur 37 fr) → (∀ cur fr, o ≠ .cells cur 9 fr) → W'.heap[j]? = some o
theorem TurnR.trans {base R m : Nat} {A B C : World} (h : TurnR base R m A B) (k : TurnR base R m B C) : TurnR base R m A C :=
  ⟨k.os.trans h.os, k.tape.trans h.tape, k.output.trans h.output, Nat.le_trans h.size k.size, fun j hj hs h1 h2 => (k.low j hj (Nat.lt_of_lt_of_le hs h.size) h1 h2).trans (h.low j hj hs h1 h2), fun j o hj h1 h2 h3 h4 => k.same j o (h.same j o hj h1 h2 h3 h4) h1 h2 h3 h4⟩
theorem TurnR.of_below {base R m : Nat} {W W' : World} (h : Below W.heap.size W W') : TurnR base R m W W' :=
  ⟨h.os, h.tape, h.output, h.size, fun j _ hs _ _ => h.block j hs, fun j _o hj _ _ _ _ => (h.block j (Array.getElem?_eq_some_iff.1 hj).1).trans hj⟩
theorem TurnR.below {base R m n : Nat} {W W' : World} (h : TurnR base R m W W') (hn : n ≤ base) (hR : n ≤ R) (hm : n ≤ m) (hs : n ≤ W.heap.size) : Below n W W' := ⟨h.os, h.tape, h.output, h.size, fun j hj => h.low j (by omega) (by omega) (by omega) (by omega)⟩
end Go.Proofs.YtckpojkbcbogbaaDoor
namespace Go.Proofs.YtckpojkbcbogbaaDoor
open Go Go.RowKit Go.Shelf Go.Proofs

theorem strVs_oneB (l : List Bs) (p : Bs) : strVs (l ++ [p]) = strVs l ++ [.string (mkB p)] := by simp [strVs, strV]
/-- A block that has targets is none of texts. -/
theorem no_textB {base : Nat} {W : World} {A : Option Addr} {n c g : Nat} {xs : List Value} {q : Array Value} {fr : Nat × Nat} (h : W.ownsRow base 9 1 (.slice A n c) n xs) (hg : W.heap[g]? = some (.cells q 37 fr)) : blkA A ≠ some g := fun e => by
  obtain ⟨_, cur, hc⟩ := row_ge h ((own_blk _ _ _).trans e)
  rw [hg] at hc; cases hc

theorem RdO.laySrc {base R m : Nat} {dir : ByteArray} {M : List TX} {x : TX} {K : List Bs} {W W3 : World} {g c c' : Nat} {A' : Option Addr} {p : Bs} {o : Obj} (h : RdO base R m dir (M ++ [x]) K W) (hRb : R < base) (hmb : m < base)
    (h1 : W.heap[R]? = some (.cells #[.pointer (some ⟨g, M.length * 3, none⟩), .string dir, .slice (some ⟨g, 0, none⟩) (M.length + 1) c, .map (some m)] 70 (0, 0)))
    (h2 : W.ownsRow base 37 3 (.slice (some ⟨g, 0, none⟩) (M.length + 1) c) (M.length + 1) (gcells (M ++ [x])))
    (hg : (W.alloc o).grownBy W3 (blkA x.A)) (hv : W3.ownsRow base 9 1 (.slice A' (x.s.length + 1) c') (x.s.length + 1) (strVs (x.s ++ [p])))
    (hl : blkA x.A = blkA A' ∨ blkA A' = some (W.heap.size + 1)) :
    RdO base R m dir (M ++ [{ x with A := A', c := c', s := x.s ++ [p] }]) K (W3.setCell ⟨g, M.length * 3 + 1, none⟩ (.slice A' (x.s.length + 1) c')) ∧ TurnR base R m W (W3.setCell ⟨g, M.length * 3 + 1, none⟩ (.slice A' (x.s.length + 1) c')) := by
  obtain ⟨hL, hap⟩ := h.last M x rfl
  obtain ⟨hgb, cur, hgc⟩ := row_ge h2 (g := g) rfl
  obtain ⟨W4, hW4⟩ : ∃ W4, W3.setCell ⟨g, M.length * 3 + 1, none⟩ (.slice A' (x.s.length + 1) c') = W4 := ⟨_, rfl⟩
  obtain ⟨y, hy⟩ : ∃ y : TX, ({ x with A := A', c := c', s := x.s ++ [p] } : TX) = y := ⟨_, rfl⟩
  have hlt : ∀ (j : Nat) (o' : Obj), W.heap[j]? = some o' → j < W.heap.size := fun j o' hj => (Array.getElem?_eq_some_iff.1 hj).1
  have hxg : blkA x.A ≠ some g := no_textB hL.s hgc
  have keep3 : ∀ (j : Nat) (o' : Obj), W.heap[j]? = some o' → blkA x.A ≠ some j → W3.heap[j]? = some o' := fun j o' hj hn =>
    (hg.block j (by rw [World.size_alloc]; have := hlt j o' hj; omega) (fun e => hn e.symm)).trans ((Below.heap_alloc _ _ _ (hlt j o' hj)).trans hj)
  have other4 : ∀ j, j ≠ g → W4.heap[j]? = W3.heap[j]? := fun j hj => by rw [← hW4]; exact heap_setCell_other W3 ⟨g, M.length * 3 + 1, none⟩ j _ hj
  have keep4 : ∀ (j : Nat) (o' : Obj), W.heap[j]? = some o' → blkA x.A ≠ some j → j ≠ g → W4.heap[j]? = some o' := fun j o' hj hn hng => (other4 j hng).trans (keep3 j o' hj hn)
  have hbx : ∀ j, blkA x.A = some j → base ≤ j ∧ ∃ cur, W.heap[j]? = some (.cells cur 9 (0, 0)) := fun j hj => row_ge hL.s ((own_blk _ _ _).trans hj)
  have hsz3 : W.heap.size ≤ W3.heap.size := by have := hg.size; rw [World.size_alloc] at this; omega
  have hsz4 : W.heap.size ≤ W4.heap.size := by rw [← hW4]; simpa [World.setCell] using hsz3
  have r3 : W3.ownsRow base 37 3 (.slice (some ⟨g, 0, none⟩) (M.length + 1) c) (M.length + 1) (gcells (M ++ [x])) := ownsRow_keepA h2 fun j o' _ hj ho => keep3 j o' ho (fun e => by
    simp only [Value.ownBlock, Option.some.injEq] at hj
    subst hj
    exact hxg e)
  have r4 : W4.ownsRow base 37 3 (.slice (some ⟨g, 0, none⟩) (M.length + 1) c) (M.length + 1) (gcells (M ++ [y])) := by
    have := (r3.stored (M.length * 3 + 1) (.slice A' (x.s.length + 1) c')).1
    rwa [gcells_set M x y 1 _ (by rw [← hy]; simp [TX.cs]), hW4] at this
  have hln : (M ++ [y]).length = M.length + 1 := by simp
  have hgA' : blkA A' ≠ some g := fun e => by
    rcases hl with hl | hl
    · exact hxg (hl.trans e)
    · have e2 := hl.symm.trans e
      simp only [Option.some.injEq] at e2
      have := hlt g _ hgc
      omega
  have hlen : (x.s ++ [p]).length = x.s.length + 1 := by simp
  have v4 : W4.ownsRow base 9 1 (.slice A' (x.s ++ [p]).length c') (x.s ++ [p]).length (strVs (x.s ++ [p])) := by
    rw [hlen]
    exact ownsRow_keepA hv fun j o' _ hj ho => (other4 j (fun e => by rw [own_blk] at hj; exact hgA' (by rw [hj, e]))).trans ho
  have hne : ∀ j, blkA x.B = some j → blkA x.A ≠ some j := fun j hj e => hL.ne j e hj
  have hgB : blkA x.B ≠ some g := no_textB hL.d hgc
  have d4 : W4.ownsRow base 9 1 (.slice x.B x.d.length x.b) x.d.length (strVs x.d) := ownsRow_keepA hL.d fun j o' _ hj ho => by
    rw [own_blk] at hj
    exact keep4 j o' ho (hne j hj) (fun e => hgB (by rw [hj, e]))
  have hBs : ∀ j, blkA x.B = some j → j < W.heap.size := fun j hj => by
    obtain ⟨_, cur', hc'⟩ := row_ge hL.d ((own_blk _ _ _).trans hj)
    exact hlt j _ hc'
  have hne4 : ∀ j, blkA A' = some j → blkA x.B ≠ some j := fun j hj hB => by
    rcases hl with hl | hl
    · exact hne j hB (hl.trans hj)
    · have e2 := hl.symm.trans hj
      simp only [Option.some.injEq] at e2
      have := hBs j hB
      omega
  have hL4 : TgL base W4 y := by rw [← hy]; exact ⟨v4, d4, hne4⟩
  have htg : ∀ z ∈ M, TgT base W4 z := fun z hz => (h.own z (by simp [hz])).keep hsz4 fun j cur' _ hj ho => keep4 j _ ho (fun e => by
    have := hap z hz j (.inl e)
    rcases hj with hj | hj
    · exact this.1 hj
    · exact this.2 hj) (fun e => by
    subst e
    rw [hgc] at ho; cases ho)
  rw [hW4, hy]
  refine ⟨⟨⟨some ⟨g, 0, none⟩, c, ?_, ?_⟩, fun z hz => ?_, fun M' z e => ?_, h.names.keep fun o' ho => ?_⟩, ?_⟩
  · rw [hln, show endA (some ⟨g, 0, none⟩) (M.length + 1) = some ⟨g, M.length * 3, none⟩ from by simp [endA]]
    exact keep4 R _ h1 (fun e => by have := (hbx R e).1; omega) (by omega)
  · rw [hln]; exact r4
  · rcases List.mem_append.1 hz with hz | hz
    · exact htg z hz
    · simp only [List.mem_singleton] at hz; subst hz
      exact hL4.ro
  · obtain ⟨rfl, e2⟩ := List.append_inj' e rfl
    simp only [List.cons.injEq, and_true] at e2
    subst e2
    refine ⟨hL4, fun z hz j hj => ?_⟩
    have hzl := (h.own z (by simp [hz])).lt j
    rw [← hy] at hj
    rcases hj with hj | hj
    · (rcases hl with hl | hl
       · exact hap z hz j (.inl (hl.trans hj))
       · have e2 := hl.symm.trans hj
         simp only [Option.some.injEq] at e2
         exact ⟨fun e => by have := hzl (.inl e); omega, fun e => by have := hzl (.inr e); omega⟩)
    · exact hap z hz j (.inr hj)
  · exact keep4 m o' ho (fun e => by have := (hbx m e).1; omega) (by omega)
  · refine ⟨by rw [← hW4]; exact hg.os, by rw [← hW4]; exact hg.tape, by rw [← hW4]; exact hg.output, hsz4, fun j hj hs _ _ => ?_, fun j o' hj _ _ ht hs => ?_⟩
    · exact (other4 j (by omega)).trans ((hg.block j (by rw [World.size_alloc]; omega) (fun e => by have := (hbx j e.symm).1; omega)).trans (Below.heap_alloc _ _ _ hs))
    · refine keep4 j o' hj (fun e => ?_) (fun e => ?_)
      · obtain ⟨_, cur', hc'⟩ := hbx j e
        rw [hc'] at hj; cases hj
        exact hs _ _ rfl
      · subst e
        rw [hgc] at hj; cases hj
        exact ht _ _ rfl

theorem RdO.layDep {base R m : Nat} {dir : ByteArray} {M : List TX} {x : TX} {K : List Bs} {W W3 : World} {g c c' : Nat} {A' : Option Addr} {p : Bs} {o : Obj} (h : RdO base R m dir (M ++ [x]) K W) (hRb : R < base) (hmb : m < base)
    (h1 : W.heap[R]? = some (.cells #[.pointer (some ⟨g, M.length * 3, none⟩), .string dir, .slice (some ⟨g, 0, none⟩) (M.length + 1) c, .map (some m)] 70 (0, 0)))
    (h2 : W.ownsRow base 37 3 (.slice (some ⟨g, 0, none⟩) (M.length + 1) c) (M.length + 1) (gcells (M ++ [x])))
    (hg : (W.alloc o).grownBy W3 (blkA x.B)) (hv : W3.ownsRow base 9 1 (.slice A' (x.d.length + 1) c') (x.d.length + 1) (strVs (x.d ++ [p])))
    (hl : blkA x.B = blkA A' ∨ blkA A' = some (W.heap.size + 1)) :
    RdO base R m dir (M ++ [{ x with B := A', b := c', d := x.d ++ [p] }]) K (W3.setCell ⟨g, M.length * 3 + 2, none⟩ (.slice A' (x.d.length + 1) c')) ∧ TurnR base R m W (W3.setCell ⟨g, M.length * 3 + 2, none⟩ (.slice A' (x.d.length + 1) c')) := by
  obtain ⟨hL, hap⟩ := h.last M x rfl
  obtain ⟨hgb, cur, hgc⟩ := row_ge h2 (g := g) rfl
  obtain ⟨W4, hW4⟩ : ∃ W4, W3.setCell ⟨g, M.length * 3 + 2, none⟩ (.slice A' (x.d.length + 1) c') = W4 := ⟨_, rfl⟩
  obtain ⟨y, hy⟩ : ∃ y : TX, ({ x with B := A', b := c', d := x.d ++ [p] } : TX) = y := ⟨_, rfl⟩
  have hlt : ∀ (j : Nat) (o' : Obj), W.heap[j]? = some o' → j < W.heap.size := fun j o' hj => (Array.getElem?_eq_some_iff.1 hj).1
  have hxg : blkA x.B ≠ some g := no_textB hL.d hgc
  have keep3 : ∀ (j : Nat) (o' : Obj), W.heap[j]? = some o' → blkA x.B ≠ some j → W3.heap[j]? = some o' := fun j o' hj hn =>
    (hg.block j (by rw [World.size_alloc]; have := hlt j o' hj; omega) (fun e => hn e.symm)).trans ((Below.heap_alloc _ _ _ (hlt j o' hj)).trans hj)
  have other4 : ∀ j, j ≠ g → W4.heap[j]? = W3.heap[j]? := fun j hj => by rw [← hW4]; exact heap_setCell_other W3 ⟨g, M.length * 3 + 2, none⟩ j _ hj
  have keep4 : ∀ (j : Nat) (o' : Obj), W.heap[j]? = some o' → blkA x.B ≠ some j → j ≠ g → W4.heap[j]? = some o' := fun j o' hj hn hng => (other4 j hng).trans (keep3 j o' hj hn)
  have hbx : ∀ j, blkA x.B = some j → base ≤ j ∧ ∃ cur, W.heap[j]? = some (.cells cur 9 (0, 0)) := fun j hj => row_ge hL.d ((own_blk _ _ _).trans hj)
  have hsz3 : W.heap.size ≤ W3.heap.size := by have := hg.size; rw [World.size_alloc] at this; omega
  have hsz4 : W.heap.size ≤ W4.heap.size := by rw [← hW4]; simpa [World.setCell] using hsz3
  have r3 : W3.ownsRow base 37 3 (.slice (some ⟨g, 0, none⟩) (M.length + 1) c) (M.length + 1) (gcells (M ++ [x])) := ownsRow_keepA h2 fun j o' _ hj ho => keep3 j o' ho (fun e => by
    simp only [Value.ownBlock, Option.some.injEq] at hj
    subst hj
    exact hxg e)
  have r4 : W4.ownsRow base 37 3 (.slice (some ⟨g, 0, none⟩) (M.length + 1) c) (M.length + 1) (gcells (M ++ [y])) := by
    have := (r3.stored (M.length * 3 + 2) (.slice A' (x.d.length + 1) c')).1
    rwa [gcells_set M x y 2 _ (by rw [← hy]; simp [TX.cs]), hW4] at this
  have hln : (M ++ [y]).length = M.length + 1 := by simp
  have hgA' : blkA A' ≠ some g := fun e => by
    rcases hl with hl | hl
    · exact hxg (hl.trans e)
    · have e2 := hl.symm.trans e
      simp only [Option.some.injEq] at e2
      have := hlt g _ hgc
      omega
  have hlen : (x.d ++ [p]).length = x.d.length + 1 := by simp
  have v4 : W4.ownsRow base 9 1 (.slice A' (x.d ++ [p]).length c') (x.d ++ [p]).length (strVs (x.d ++ [p])) := by
    rw [hlen]
    exact ownsRow_keepA hv fun j o' _ hj ho => (other4 j (fun e => by rw [own_blk] at hj; exact hgA' (by rw [hj, e]))).trans ho
  have hne : ∀ j, blkA x.A = some j → blkA x.B ≠ some j := fun j hj e => hL.ne j hj e
  have hgB : blkA x.A ≠ some g := no_textB hL.s hgc
  have d4 : W4.ownsRow base 9 1 (.slice x.A x.s.length x.c) x.s.length (strVs x.s) := ownsRow_keepA hL.s fun j o' _ hj ho => by
    rw [own_blk] at hj
    exact keep4 j o' ho (hne j hj) (fun e => hgB (by rw [hj, e]))
  have hBs : ∀ j, blkA x.A = some j → j < W.heap.size := fun j hj => by
    obtain ⟨_, cur', hc'⟩ := row_ge hL.s ((own_blk _ _ _).trans hj)
    exact hlt j _ hc'
  have hne4 : ∀ j, blkA A' = some j → blkA x.A ≠ some j := fun j hj hB => by
    rcases hl with hl | hl
    · exact hne j hB (hl.trans hj)
    · have e2 := hl.symm.trans hj
      simp only [Option.some.injEq] at e2
      have := hBs j hB
      omega
  have hL4 : TgL base W4 y := by rw [← hy]; exact ⟨d4, v4, fun j hj hB => hne4 j hB hj⟩
  have htg : ∀ z ∈ M, TgT base W4 z := fun z hz => (h.own z (by simp [hz])).keep hsz4 fun j cur' _ hj ho => keep4 j _ ho (fun e => by
    have := hap z hz j (.inr e)
    rcases hj with hj | hj
    · exact this.1 hj
    · exact this.2 hj) (fun e => by
    subst e
    rw [hgc] at ho; cases ho)
  rw [hW4, hy]
  refine ⟨⟨⟨some ⟨g, 0, none⟩, c, ?_, ?_⟩, fun z hz => ?_, fun M' z e => ?_, h.names.keep fun o' ho => ?_⟩, ?_⟩
  · rw [hln, show endA (some ⟨g, 0, none⟩) (M.length + 1) = some ⟨g, M.length * 3, none⟩ from by simp [endA]]
    exact keep4 R _ h1 (fun e => by have := (hbx R e).1; omega) (by omega)
  · rw [hln]; exact r4
  · rcases List.mem_append.1 hz with hz | hz
    · exact htg z hz
    · simp only [List.mem_singleton] at hz; subst hz
      exact hL4.ro
  · obtain ⟨rfl, e2⟩ := List.append_inj' e rfl
    simp only [List.cons.injEq, and_true] at e2
    subst e2
    refine ⟨hL4, fun z hz j hj => ?_⟩
    have hzl := (h.own z (by simp [hz])).lt j
    rw [← hy] at hj
    rcases hj with hj | hj
    · exact hap z hz j (.inl hj)
    · (rcases hl with hl | hl
       · exact hap z hz j (.inr (hl.trans hj))
       · have e2 := hl.symm.trans hj
         simp only [Option.some.injEq] at e2
         exact ⟨fun e => by have := hzl (.inl e); omega, fun e => by have := hzl (.inr e); omega⟩)
  · exact keep4 m o' ho (fun e => by have := (hbx m e).1; omega) (by omega)
  · refine ⟨by rw [← hW4]; exact hg.os, by rw [← hW4]; exact hg.tape, by rw [← hW4]; exact hg.output, hsz4, fun j hj hs _ _ => ?_, fun j o' hj _ _ ht hs => ?_⟩
    · exact (other4 j (by omega)).trans ((hg.block j (by rw [World.size_alloc]; omega) (fun e => by have := (hbx j e.symm).1; omega)).trans (Below.heap_alloc _ _ _ hs))
    · refine keep4 j o' hj (fun e => ?_) (fun e => ?_)
      · obtain ⟨_, cur', hc'⟩ := hbx j e
        rw [hc'] at hj; cases hj
        exact hs _ _ rfl
      · subst e
        rw [hgc] at hj; cases hj
        exact ht _ _ rfl
end Go.Proofs.YtckpojkbcbogbaaDoor
namespace Go.Proofs.YtckpojkbcbogbaaDoor
open Go Go.RowKit Go.Shelf Go.Proofs

/-- A target that has nothing yet. -/
def newX (n : ByteArray) : TX := ⟨n, none, 0, [], none, 0, []⟩
theorem RdO.named {base R m : Nat} {dir : ByteArray} {L : List TX} {K : List Bs} {s : Bs} {W W' : World} (h : RdO base R m dir L K W) (hRm : R ≠ m) (hmb : m < base) (hg : W.grownBy W' (some m)) (hn : NamesAt W' m (K.length + 1) (K ++ [s])) : RdO base R m dir L (K ++ [s]) W' ∧ TurnR base R m W W' := by
  have keep : ∀ (j : Nat) (o : Obj), W.heap[j]? = some o → j ≠ m → W'.heap[j]? = some o := fun j o hj hn => (hg.block j (Array.getElem?_eq_some_iff.1 hj).1 (fun e => hn (by simpa using e))).trans hj
  obtain ⟨A, c, h1, h2⟩ := h.box
  refine ⟨⟨⟨A, c, keep R _ h1 hRm, ownsRow_keepA h2 fun j o hb _ ho => keep j o ho (by omega)⟩, fun x hx => (h.own x hx).keep hg.size fun j o hb _ ho => keep j _ ho (by omega), fun M x e => ?_, by rw [List.length_append]; exact hn⟩, hg.os, hg.tape, hg.output, hg.size, fun j _ hs _ h2 => hg.block j hs (fun e => h2 (by simpa using e)), fun j o hj _ h2 _ _ => keep j o hj h2⟩
  obtain ⟨hl, ha⟩ := h.last M x e
  exact ⟨⟨ownsRow_keepA hl.s fun j o hb _ ho => keep j o ho (by omega), ownsRow_keepA hl.d fun j o hb _ ho => keep j o ho (by omega), hl.ne⟩, ha⟩
/-- A target more in the row; the place of the target at hand is the old one yet. -/
structure RdM (base R m : Nat) (dir : ByteArray) (M : List TX) (n : ByteArray) (K : List Bs) (p : Option Addr) (g c : Nat) (W : World) : Prop where
  r : W.heap[R]? = some (.cells #[.pointer p, .string dir, .slice (some ⟨g, 0, none⟩) (M.length + 1) c, .map (some m)] 70 (0, 0))
  row : W.ownsRow base 37 3 (.slice (some ⟨g, 0, none⟩) (M.length + 1) c) (M.length + 1) (gcells (M ++ [newX n]))
  own : ∀ x ∈ M, TgT base W x
  names : NamesAt W m K.length K
theorem RdO.added {base R m : Nat} {dir n : ByteArray} {L : List TX} {K : List Bs} {W W3 : World} {A p : Option Addr} {c g' c' : Nat} {o : Obj} (h : RdO base R m dir L K W) (hR : R < base) (hRm : R ≠ m) (hmb : m < base)
    (h1 : W.heap[R]? = some (.cells #[.pointer p, .string dir, .slice A L.length c, .map (some m)] 70 (0, 0)))
    (h2 : W.ownsRow base 37 3 (.slice A L.length c) L.length (gcells L)) (hg : (W.alloc o).grownBy W3 (blkA A))
    (hv : W3.ownsRow base 37 3 (.slice (some ⟨g', 0, none⟩) (L.length + 1) c') (L.length + 1) (gcells (L ++ [newX n]))) :
    RdM base R m dir L n K p g' c' (W3.setCell ⟨R, 2, none⟩ (.slice (some ⟨g', 0, none⟩) (L.length + 1) c')) ∧ TurnR base R m W (W3.setCell ⟨R, 2, none⟩ (.slice (some ⟨g', 0, none⟩) (L.length + 1) c')) := by
  have hlt : ∀ (j : Nat) (o' : Obj), W.heap[j]? = some o' → j < W.heap.size := fun j o' hj => (Array.getElem?_eq_some_iff.1 hj).1
  have hA : ∀ j, blkA A = some j → base ≤ j ∧ ∃ cur, W.heap[j]? = some (.cells cur 37 (0, 0)) := fun j hj => row_ge h2 ((own_blk _ _ _).trans hj)
  have keep3 : ∀ (j : Nat) (o' : Obj), W.heap[j]? = some o' → blkA A ≠ some j → W3.heap[j]? = some o' := fun j o' hj hn =>
    (hg.block j (by rw [World.size_alloc]; have := hlt j o' hj; omega) (fun e => hn e.symm)).trans ((Below.heap_alloc _ _ _ (hlt j o' hj)).trans hj)
  obtain ⟨W4, hW4⟩ : ∃ W4, W3.setCell ⟨R, 2, none⟩ (.slice (some ⟨g', 0, none⟩) (L.length + 1) c') = W4 := ⟨_, rfl⟩
  have other4 : ∀ j, j ≠ R → W4.heap[j]? = W3.heap[j]? := fun j hj => by rw [← hW4]; exact heap_setCell_other W3 ⟨R, 2, none⟩ j _ hj
  have hsz3 : W.heap.size ≤ W3.heap.size := by have := hg.size; rw [World.size_alloc] at this; omega
  have hsz4 : W.heap.size ≤ W4.heap.size := by rw [← hW4]; simpa [World.setCell] using hsz3
  have hR3 := keep3 R _ h1 (fun e => by have := (hA R e).1; omega)
  have text : ∀ (j : Nat) (cur : Array Value), base ≤ j → W.heap[j]? = some (.cells cur 9 (0, 0)) → W4.heap[j]? = some (.cells cur 9 (0, 0)) := fun j cur hb hj => (other4 j (by omega)).trans (keep3 j _ hj (fun e => by
    obtain ⟨_, cur', hc⟩ := hA j e
    rw [hj] at hc; cases hc))
  rw [hW4]
  refine ⟨⟨?_, ownsRow_keepA hv fun j o' hb _ ho => (other4 j (by omega)).trans ho, fun x hx => (h.own x hx).keep hsz4 fun j cur hb _ ho => text j cur hb ho, h.names.keep fun o' ho => (other4 m (fun e => hRm e.symm)).trans (keep3 m o' ho (fun e => by have := (hA m e).1; omega))⟩, by rw [← hW4]; exact hg.os, by rw [← hW4]; exact hg.tape, by rw [← hW4]; exact hg.output, hsz4, fun j hj hs h1 _ => ?_, fun j o' hj h1 _ ht _ => ?_⟩
  · rw [← hW4]; exact heap_setCell_same W3 R 2 _ _ _ hR3
  · exact (other4 j h1).trans ((hg.block j (by rw [World.size_alloc]; omega) (fun e => by have := (hA j e.symm).1; omega)).trans (Below.heap_alloc _ _ _ hs))
  · exact (other4 j h1).trans (keep3 j o' hj (fun e => by
      obtain ⟨_, cur, hc⟩ := hA j e
      rw [hc] at hj; cases hj
      exact ht _ _ rfl))
theorem RdM.pointed {base R m : Nat} {dir n : ByteArray} {M : List TX} {K : List Bs} {W : World} {p : Option Addr} {g c : Nat} (h : RdM base R m dir M n K p g c W) (hR : R < base) (hRm : R ≠ m) :
    RdO base R m dir (M ++ [newX n]) K (W.setCell ⟨R, 0, none⟩ (.pointer (some ⟨g, M.length * 3, none⟩))) ∧ TurnR base R m W (W.setCell ⟨R, 0, none⟩ (.pointer (some ⟨g, M.length * 3, none⟩))) := by
  have other : ∀ j, j ≠ R → (W.setCell ⟨R, 0, none⟩ (.pointer (some ⟨g, M.length * 3, none⟩))).heap[j]? = W.heap[j]? := fun j hj => heap_setCell_other W ⟨R, 0, none⟩ j _ hj
  have hsz : W.heap.size ≤ (W.setCell ⟨R, 0, none⟩ (.pointer (some ⟨g, M.length * 3, none⟩))).heap.size := by simp [World.setCell]
  have hln : (M ++ [newX n]).length = M.length + 1 := by simp
  have hnew : ∀ w : World, TgL base w (newX n) := fun w => ⟨World.ownsRow_nil _ _ _ _, World.ownsRow_nil _ _ _ _, fun g h => by cases h⟩
  refine ⟨⟨⟨some ⟨g, 0, none⟩, c, ?_, ?_⟩, fun x hx => ?_, fun M' x e => ?_, h.names.keep fun o ho => (other m (fun e => hRm e.symm)).trans ho⟩, rfl, rfl, rfl, hsz, fun j _ _ h1 _ => other j h1, fun j o hj h1 _ _ _ => (other j h1).trans hj⟩
  · rw [hln, show endA (some ⟨g, 0, none⟩) (M.length + 1) = some ⟨g, M.length * 3, none⟩ from by simp [endA]]
    exact heap_setCell_same W R 0 _ _ _ h.r
  · rw [hln]; exact ownsRow_keepA h.row fun j o hb _ ho => (other j (by omega)).trans ho
  · rcases List.mem_append.1 hx with hx | hx
    · exact (h.own x hx).keep hsz fun j cur hb _ ho => (other j (by omega)).trans ho
    · simp only [List.mem_singleton] at hx; subst hx
      exact (hnew _).ro
  · obtain ⟨rfl, e2⟩ := List.append_inj' e rfl
    simp only [List.cons.injEq, and_true] at e2
    subst e2
    refine ⟨hnew _, fun y _ j hj => ?_⟩
    rcases hj with hj | hj <;> cases hj
end Go.Proofs.YtckpojkbcbogbaaDoor
