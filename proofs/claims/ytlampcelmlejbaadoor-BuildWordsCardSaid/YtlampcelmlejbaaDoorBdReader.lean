/-
  The reader of a BUILD file in memory; what its acts turn.
-/
import Derived.Test.YtlampcelmlejbaaDoorBdMem
import Derived.Test.YtlampcelmlejbaaDoorBdNamed
import Derived.Test.YtlampcelmlejbaaDoorCaught
import Derived.Maps.OwnSet
import Derived.Deep.AppendLies
namespace Go.Proofs.YtlampcelmlejbaaDoor
open Go Go.RowKit Go.Shelf Go.Proofs Go.ChangeMaps Go.Maps Go.WideMaps

theorem target_info : (Tryd.prog.info? 37).map (fun i => (i.zero, i.size, i.bytes)) = some (some (.agg #[.string ⟨#[]⟩, .slice none 0 0, .slice none 0 0]), 3, 64) := by kernel_rfl
def gcells (l : List TX) : List Value := l.flatMap TX.cs
theorem gcells_cons (x : TX) (l : List TX) : gcells (x :: l) = .string x.n :: .slice x.A x.s.length x.c :: .slice x.B x.d.length x.b :: gcells l := rfl
theorem gcells_append (a b : List TX) : gcells (a ++ b) = gcells a ++ gcells b := by unfold gcells; rw [List.flatMap_append]
theorem gcells_length (l : List TX) : (gcells l).length = l.length * 3 := by
  induction l with
  | nil => rfl
  | cons x l ih => rw [gcells_cons]; simp only [List.length_cons, ih]; omega
theorem gcells_at (l : List TX) (i : Nat) (x : TX) (h : l[i]? = some x) : (gcells l)[i * 3]? = some (.string x.n) ∧ (gcells l)[i * 3 + 1]? = some (.slice x.A x.s.length x.c) ∧ (gcells l)[i * 3 + 2]? = some (.slice x.B x.d.length x.b) := by
  induction l generalizing i with
  | nil => simp at h
  | cons y l ih => cases i with
    | zero => simp at h; subst h; exact ⟨rfl, rfl, rfl⟩
    | succ i =>
      obtain ⟨h1, h2, h3⟩ := ih i (by simpa using h)
      rw [gcells_cons, show (i + 1) * 3 = i * 3 + 1 + 1 + 1 from by omega]
      exact ⟨by simpa using h1, by simpa using h2, by simpa using h3⟩
theorem gcells_set (M : List TX) (x y : TX) (k : Nat) (u : Value) (hk : x.cs.set k u = y.cs) : (gcells (M ++ [x])).set (M.length * 3 + k) u = gcells (M ++ [y]) := by
  rw [gcells_append, gcells_append, ← gcells_length, List.set_append_right _ _ (Nat.le_add_right _ _), Nat.add_sub_cancel_left]
  rw [show gcells [x] = x.cs from by simp [gcells], show gcells [y] = y.cs from by simp [gcells], hk]

/-- The map in block mb has these names. -/
def NamesAt (w : World) (mb n : Nat) (K : List Bs) : Prop := ∃ (k : Nat) (D : DataW Unit), w.ownsMap Tryd.prog 9 unitElem mb k D ∧ k ≤ n ∧ ∀ s : Bs, Maps.has D (.string s) = true ↔ s ∈ K
theorem NamesAt.keep {w w' : World} {mb n : Nat} {K : List Bs} (h : NamesAt w mb n K) (hk : ∀ o, w.heap[mb]? = some o → w'.heap[mb]? = some o) : NamesAt w' mb n K := by
  obtain ⟨k, D, ⟨es, clock, he, F, hs, hD⟩, h2, h3⟩ := h
  exact ⟨k, D, ⟨es, clock, hk _ he, F, hs, hD⟩, h2, h3⟩
theorem NamesAt.map {w : World} {mb n : Nat} {K : List Bs} (h : NamesAt w mb n K) : ∃ es clock, w.heap[mb]? = some (.map es clock) := by
  obtain ⟨_, _, ⟨es, clock, he, _⟩, _⟩ := h
  exact ⟨es, clock, he⟩
theorem NamesAt.put {W : World} {mb k n : Nat} {K : List Bs} {D : DataW Unit} {s : Bs} (h1 : W.ownsMap Tryd.prog 9 unitElem mb (k + 1) (D.put (.string s) (.agg []))) (hD : Maps.IsMap D) (hk : k ≤ n) (h3 : ∀ s : Bs, Maps.has D (.string s) = true ↔ s ∈ K) : NamesAt W mb (n + 1) (K ++ [s]) := by
  have hkl : WideAt.IsKeyLit (.string s) := by simp [WideAt.IsKeyLit]
  refine ⟨k + 1, _, h1, by omega, fun t => ?_⟩
  by_cases e : t = s
  · subst e
    rw [Maps.has_put_same hD hkl]; simp
  · rw [Maps.has_put_other (fun h => e (by simpa using h)), h3 t]
    simp [e]

def blkA (A : Option Addr) : Option Nat := A.map (·.block)
theorem own_blk (A : Option Addr) (n c : Nat) : (Value.slice A n c).ownBlock = blkA A := by cases A <;> rfl
theorem StrsT.keepA {base : Nat} {w w' : World} {A : Option Addr} {l : List Bs} (h : StrsT base w A l) (hk : ∀ j cur, base ≤ j → blkA A = some j → w.heap[j]? = some (.cells cur 9 (0, 0)) → w'.heap[j]? = some (.cells cur 9 (0, 0))) : StrsT base w' A l := fun hn => by
  obtain ⟨g, o, cur, e, hb, hg, hc⟩ := h hn
  exact ⟨g, o, cur, e, hb, hk g _ hb (by rw [e]; rfl) hg, hc⟩
theorem ownsRow_keepA {w w' : World} {base e size n : Nat} {v : Value} {xs : List Value} (h : w.ownsRow base e size v n xs) (hk : ∀ j o, base ≤ j → v.ownBlock = some j → w.heap[j]? = some o → w'.heap[j]? = some o) : w'.ownsRow base e size v n xs :=
  ⟨h.1, h.2.imp id fun ⟨g, cap, cur, hv, hb, hg, r⟩ => ⟨g, cap, cur, hv, hb, hk g _ hb (by rw [hv]; rfl) hg, r⟩⟩
theorem ownsRow_strsT {base n c : Nat} {w : World} {A : Option Addr} {l : List Bs} (h : w.ownsRow base 9 1 (.slice A n c) n (strVs l)) (hn : n = l.length) : StrsT base w A l ∧ l.length ≤ c ∧ c ≤ maxLen := by
  subst hn
  rcases h.2 with ⟨h', h0⟩ | ⟨g, cap, cur, h', hb, hg, hnc, hcm, _, ht⟩
  · simp only [Value.slice.injEq] at h'
    obtain ⟨rfl, _, rfl⟩ := h'
    exact ⟨fun hp => absurd hp (by omega), by omega, by unfold maxLen; omega⟩
  · simp only [Value.slice.injEq, true_and] at h'
    obtain ⟨rfl, rfl⟩ := h'
    refine ⟨fun _ => ⟨g, 0, cur, rfl, hb, hg, fun i p hp => ?_⟩, hnc, hcm⟩
    have hi : i < l.length := (List.getElem?_eq_some_iff.1 hp).1
    have h2 : (strVs l)[i]? = some (strV p) := by unfold strVs; rw [List.getElem?_map, hp]; rfl
    rw [← ht, List.getElem?_take_of_lt (by omega)] at h2
    rw [Nat.zero_add]
    rw [Array.getElem?_toList] at h2
    exact h2

/-- Texts that are read only. -/
structure TgT (base : Nat) (w : World) (x : TX) : Prop where
  s : StrsT base w x.A x.s
  sc : x.s.length ≤ x.c
  cm : x.c ≤ maxLen
  d : StrsT base w x.B x.d
  dc : x.d.length ≤ x.b
  bm : x.b ≤ maxLen
  lt : ∀ j, blkA x.A = some j ∨ blkA x.B = some j → j < w.heap.size
theorem TgT.ok {base : Nat} {w : World} {x : TX} (h : TgT base w x) : TgOk w x := ⟨h.s.at_, h.sc, h.cm, h.d.at_, h.dc, h.bm⟩
theorem TgT.keep {base : Nat} {w w' : World} {x : TX} (h : TgT base w x) (hs : w.heap.size ≤ w'.heap.size) (hk : ∀ j cur, base ≤ j → blkA x.A = some j ∨ blkA x.B = some j → w.heap[j]? = some (.cells cur 9 (0, 0)) → w'.heap[j]? = some (.cells cur 9 (0, 0))) : TgT base w' x :=
  ⟨h.s.keepA fun j o hb hj ho => hk j o hb (.inl hj) ho, h.sc, h.cm, h.d.keepA fun j o hb hj ho => hk j o hb (.inr hj) ho, h.dc, h.bm, fun j hj => Nat.lt_of_lt_of_le (h.lt j hj) hs⟩
/-- Texts that grow: the target at hand. -/
structure TgL (base : Nat) (w : World) (x : TX) : Prop where
  s : w.ownsRow base 9 1 (.slice x.A x.s.length x.c) x.s.length (strVs x.s)
  d : w.ownsRow base 9 1 (.slice x.B x.d.length x.b) x.d.length (strVs x.d)
  ne : ∀ g, blkA x.A = some g → blkA x.B ≠ some g
theorem TgL.ro {base : Nat} {w : World} {x : TX} (h : TgL base w x) : TgT base w x := by
  obtain ⟨a1, a2, a3⟩ := ownsRow_strsT h.s rfl
  obtain ⟨b1, b2, b3⟩ := ownsRow_strsT h.d rfl
  refine ⟨a1, a2, a3, b1, b2, b3, fun j hj => ?_⟩
  rcases hj with hj | hj
  · obtain ⟨_, cur, hc⟩ := row_ge h.s ((own_blk _ _ _).trans hj)
    exact (Array.getElem?_eq_some_iff.1 hc).1
  · obtain ⟨_, cur, hc⟩ := row_ge h.d ((own_blk _ _ _).trans hj)
    exact (Array.getElem?_eq_some_iff.1 hc).1
/-- No row of x is one of y's. -/
def apartT (x y : TX) : Prop := ∀ g, blkA y.A = some g ∨ blkA y.B = some g → blkA x.A ≠ some g ∧ blkA x.B ≠ some g
/-- Where the last one is. -/
def endA : Option Addr → Nat → Option Addr
  | some a, k + 1 => some ⟨a.block, a.off + k * 3, none⟩
  | _, _ => none
/-- The reader: its block R, the map m of names; what it has read so far. -/
structure RdO (base R m : Nat) (dir : ByteArray) (L : List TX) (K : List Bs) (W : World) : Prop where
  box : ∃ A c, W.heap[R]? = some (.cells #[.pointer (endA A L.length), .string dir, .slice A L.length c, .map (some m)] 70 (0, 0)) ∧ W.ownsRow base 37 3 (.slice A L.length c) L.length (gcells L)
  own : ∀ x ∈ L, TgT base W x
  last : ∀ M x, L = M ++ [x] → TgL base W x ∧ ∀ y ∈ M, apartT y x
  names : NamesAt W m K.length K
theorem RdO.kept {base R m : Nat} {dir : ByteArray} {L : List TX} {K : List Bs} {W W' : World} (h : RdO base R m dir L K W) (hs : W.heap.size ≤ W'.heap.size) (hk : ∀ j o, W.heap[j]? = some o → j = R ∨ j = m ∨ base ≤ j → W'.heap[j]? = some o) : RdO base R m dir L K W' := by
  obtain ⟨A, c, h1, h2⟩ := h.box
  refine ⟨⟨A, c, hk _ _ h1 (.inl rfl), ownsRow_keepA h2 fun j o hb _ ho => hk j o ho (.inr (.inr hb))⟩, fun x hx => (h.own x hx).keep hs fun j o hb _ ho => hk j _ ho (.inr (.inr hb)), fun M x e => ?_, h.names.keep fun o ho => hk _ o ho (.inr (.inl rfl))⟩
  obtain ⟨hl, ha⟩ := h.last M x e
  exact ⟨⟨ownsRow_keepA hl.s fun j o hb _ ho => hk j o ho (.inr (.inr hb)), ownsRow_keepA hl.d fun j o hb _ ho => hk j o ho (.inr (.inr hb)), hl.ne⟩, ha⟩
theorem RdO.below {base R m : Nat} {dir : ByteArray} {L : List TX} {K : List Bs} {W W' : World} (h : RdO base R m dir L K W) (hb : Below W.heap.size W W') : RdO base R m dir L K W' := h.kept hb.size fun j _ ho _ => (hb.block j (Array.getElem?_eq_some_iff.1 ho).1).trans ho
/-- What it has read, as a slice. -/
theorem RdO.slice {base R m : Nat} {dir : ByteArray} {L : List TX} {K : List Bs} {W : World} (h : RdO base R m dir L K W) : ∃ A c, W.heap[R]? = some (.cells #[.pointer (endA A L.length), .string dir, .slice A L.length c, .map (some m)] 70 (0, 0)) ∧ TgsAt W A c L := by
  obtain ⟨A, c, h1, h2⟩ := h.box
  refine ⟨A, c, h1, ?_⟩
  rcases h2.2 with ⟨h', h0⟩ | ⟨g, cap, cur, h', hbg, hgb, hc, hcm, _, _⟩
  · obtain rfl : L = [] := List.eq_nil_of_length_eq_zero h0
    simp only [Value.slice.injEq] at h'
    exact TgsAt.nil _ _ _ (by unfold maxLen; omega)
  · simp only [Value.slice.injEq, true_and] at h'
    obtain ⟨rfl, rfl⟩ := h'
    refine ⟨hc, hcm, fun _ => ⟨g, 0, rfl, fun i x hx => ?_⟩, fun x hx => (h.own x hx).ok⟩
    obtain ⟨a1, a2, a3⟩ := gcells_at L i x hx
    have b1 := World.ownsRow.cells h2 (g := g) rfl _ _ a1
    have b2 := World.ownsRow.cells h2 (g := g) rfl _ _ a2
    have b3 := World.ownsRow.cells h2 (g := g) rfl _ _ a3
    rw [Go.WideShapes.add_plain, Nat.zero_add] at b1 b2 b3
    rw [Nat.zero_add]
    exact ⟨b1, b2, b3⟩

/-- Only the reader, its map, rows of targets and of texts turn. -/
structure TurnR (base R m : Nat) (W W' : World) : Prop where
  os : W'.os = W.os
  tape : W'.tape = W.tape
  output : W'.output = W.output
  size : W.heap.size ≤ W'.heap.size
  low : ∀ j, j < base → j < W.heap.size → j ≠ R → j ≠ m → W'.heap[j]? = W.heap[j]?
  same : ∀ j o, W.heap[j]? = some o → j ≠ R → j ≠ m → (∀ cur fr, o ≠ .cells cur 37 fr) → (∀ cur fr, o ≠ .cells cur 9 fr) → W'.heap[j]? = some o
theorem TurnR.trans {base R m : Nat} {A B C : World} (h : TurnR base R m A B) (k : TurnR base R m B C) : TurnR base R m A C :=
  ⟨k.os.trans h.os, k.tape.trans h.tape, k.output.trans h.output, Nat.le_trans h.size k.size, fun j hj hs h1 h2 => (k.low j hj (Nat.lt_of_lt_of_le hs h.size) h1 h2).trans (h.low j hj hs h1 h2), fun j o hj h1 h2 h3 h4 => k.same j o (h.same j o hj h1 h2 h3 h4) h1 h2 h3 h4⟩
theorem TurnR.of_below {base R m : Nat} {W W' : World} (h : Below W.heap.size W W') : TurnR base R m W W' :=
  ⟨h.os, h.tape, h.output, h.size, fun j _ hs _ _ => h.block j hs, fun j _o hj _ _ _ _ => (h.block j (Array.getElem?_eq_some_iff.1 hj).1).trans hj⟩
theorem TurnR.below {base R m n : Nat} {W W' : World} (h : TurnR base R m W W') (hn : n ≤ base) (hR : n ≤ R) (hm : n ≤ m) (hs : n ≤ W.heap.size) : Below n W W' := ⟨h.os, h.tape, h.output, h.size, fun j hj => h.low j (by omega) (by omega) (by omega) (by omega)⟩
end Go.Proofs.YtlampcelmlejbaaDoor
