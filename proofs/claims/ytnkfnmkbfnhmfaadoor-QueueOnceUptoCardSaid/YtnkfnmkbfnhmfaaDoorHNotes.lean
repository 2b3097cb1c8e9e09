/-
  What stands in memory while the records of one more revision are laid; the store into the map.
-/
import Derived.Test.YtnkfnmkbfnhmfaaDoorHBare
import Derived.Deep.MidRow
namespace Go.Proofs.YtnkfnmkbfnhmfaaDoor
open Go Go.RowKit Go.Shelf Go.Proofs Go.ChangeMaps Go.Maps Go.WideMaps

theorem MapAt.look_eq {w : World} {mb k : Nat} {D : DataW Unit} (h : MapAt w mb k D) (s : ByteArray) (hs : s.size ≤ maxLen) :
    (Instr.lookup 66 (.map (some mb)) (.string s) false).run Tryd.prog w = .ok (ptrOf (atS D s.data.toList)) w := by
  obtain ⟨v, ps, hrun, hv⟩ := h.look s hs
  rw [hrun, ptrOf_of hv]
theorem MapAt.below {w w' : World} {mb k : Nat} {D : DataW Unit} (h : MapAt w mb k D) (hb : Below w.heap.size w w') : MapAt w' mb k D := by
  have h' : w.ownsMap Tryd.prog 9 ptrD mb k D := h
  have hl := h'.lt
  obtain ⟨es, clock, he, F, hs, hD⟩ := h'
  exact ⟨es, clock, (hb.block mb hl).trans he, F, hs, hD⟩
theorem MapAt.keep {w w' : World} {mb k : Nat} {D : DataW Unit} (h : MapAt w mb k D) (hk : w'.heap[mb]? = w.heap[mb]?) : MapAt w' mb k D := by
  obtain ⟨es, clock, he, F, hs, hD⟩ := h
  exact ⟨es, clock, hk.trans he, F, hs, hD⟩
theorem MapAt.block {w : World} {mb k : Nat} {D : DataW Unit} (h : MapAt w mb k D) : ∃ es clock, w.heap[mb]? = some (.map es clock) := by
  obtain ⟨es, clock, he, _⟩ := h
  exact ⟨es, clock, he⟩
theorem MapAt.isMap {w : World} {mb k : Nat} {D : DataW Unit} (h : MapAt w mb k D) : IsMap D := by
  obtain ⟨es, clock, he, _, _, rfl⟩ := h
  exact ⟨_, rfl⟩
theorem wp_putS {o : Oper} {a : Act} {w : World} {K : Act → World → Prop} {Q : Exit → Act → World → Prop} (m x v : Operand) (ho : o.op = .mapUpdate 66 m x v) (mb k : Nat) (D : DataW Unit) (hm : a.eval m = .map (some mb)) (hown : MapAt w mb k D) (hk : k < maxLen)
    (s : ByteArray) (hx : a.eval x = .string s) (hs : s.size ≤ maxLen) (g p : Nat) (hv : a.eval v = .pointer (some ⟨g, p, none⟩))
    (h : ∀ w', MapAt w' mb (k + 1) (putS D s.data.toList (addrOf g p)) → w.grownBy w' (some mb) → K (a.put o.dst undef) w') : o.wp Tryd.prog a w K Q := by
  have hown' : w.ownsMap Tryd.prog 9 ptrD mb k D := hown
  obtain ⟨w', hrun, r1, r2⟩ := hown'.update (e := 91) hlaw Tryd.underlying66 hk (keyOf_string_mk Tryd.underlying9 hs) (ptrD_some g p)
  unfold Oper.wp
  simp [execOp, ho, hm, hx, hv, hrun, Result.andThen]
  exact h w' r1 r2

theorem heap_setCells_other (b k : Nat) (h : k ≠ b) : ∀ (vs : List Value) (o : Nat) (w : World), (w.setCells b o vs).heap[k]? = w.heap[k]?
  | [], _, _ => rfl
  | v :: r, o, w => by
    rw [World.setCells, heap_setCells_other b k h r]
    exact Below.heap_setCell _ _ _ _ h
theorem setCells_size (b : Nat) : ∀ (vs : List Value) (o : Nat) (w : World), (w.setCells b o vs).heap.size = w.heap.size
  | [], _, _ => rfl
  | v :: r, o, w => by
    rw [World.setCells, setCells_size b r]
    simp [World.setCell]
theorem setCells_rest (b : Nat) : ∀ (vs : List Value) (o : Nat) (w : World), (w.setCells b o vs).os = w.os ∧ (w.setCells b o vs).tape = w.tape ∧ (w.setCells b o vs).output = w.output
  | [], _, _ => ⟨rfl, rfl, rfl⟩
  | v :: r, o, w => by
    rw [World.setCells]
    obtain ⟨h1, h2, h3⟩ := setCells_rest b r (o + 1) (w.setCell ⟨b, o, none⟩ v)
    exact ⟨h1, h2, h3⟩
theorem setCells_block (b : Nat) {t : TypeId} {fr : Nat × Nat} : ∀ (vs : List Value) (o : Nat) (w : World) (cur : Array Value), w.heap[b]? = some (.cells cur t fr) → ∃ cur', (w.setCells b o vs).heap[b]? = some (.cells cur' t fr) ∧ cur'.size = cur.size
  | [], _, _, cur, h => ⟨cur, h, rfl⟩
  | v :: r, o, w, cur, h => by
    rw [World.setCells]
    have h2 : (w.setCell ⟨b, o, none⟩ v).heap[b]? = some (.cells (cur.setIfInBounds o v) t fr) := by
      rw [setCell_eq_setRow w b o cur t fr v h]
      exact setRow_heap _ _ _ _ _ _ h
    obtain ⟨cur', h3, h4⟩ := setCells_block b r (o + 1) _ _ h2
    exact ⟨cur', h3, by rw [h4, Array.size_setIfInBounds]⟩

/-- The records of the first i changes are laid. -/
structure NInv (w : World) (hb mb G k0 : Nat) (D : DataW Unit) (L : List DX) (rev : Int) (i : Nat) (wr : World) : Prop where
  low : mb < w.heap.size ∧ w.heap.size ≤ G
  blk : ∃ cur, wr.heap[G]? = some (.cells cur 93 (0, 0)) ∧ cur.size = L.length * 5
  recs : ∀ j x, j < i → L[j]? = some x → ∃ (A' : Option Addr) (c' : Nat), RecAt wr G (j * 5) x.k x.p A' x.b.length c' rev (ptrOf (atS (laidS D G (L.map fun x => x.p.data.toList) j) x.p.data.toList)) ∧ BytesOwn wr A' x.b
  map : MapAt wr mb (k0 + i) (laidS D G (L.map fun x => x.p.data.toList) i)
  grown : w.grownBy wr (some mb)
theorem grown_trans' {a b c : World} {r : Option Nat} (h : a.grownBy b r) (k : b.grownBy c r) : a.grownBy c r := ⟨k.os.trans h.os, k.tape.trans h.tape, k.output.trans h.output, Nat.le_trans h.size k.size, fun i hi hne => (k.block i (Nat.lt_of_lt_of_le hi h.size) hne).trans (h.block i hi hne)⟩
theorem RecAt.of_range {w : World} {g o : Nat} {k : Int} {p : ByteArray} {A : Option Addr} {n c : Nat} {rev : Int} {bv : Value} (h : w.rangeAt g o [.int .i64 k, .string p, .slice A n c, .int .i64 rev, bv]) : RecAt w g o k p A n c rev bv :=
  ⟨h 0 _ rfl, h 1 _ rfl, h 2 _ rfl, h 3 _ rfl, h 4 _ rfl⟩
theorem RecAt.apart {w : World} {g o : Nat} {k : Int} {p : ByteArray} {A : Option Addr} {n c : Nat} {rev : Int} {bv : Value} (h : RecAt w g o k p A n c rev bv) (q : Nat) (vs : List Value) (hq : o + 5 ≤ q) : RecAt (w.setCells g q vs) g o k p A n c rev bv := by
  have e : ∀ j, j < 5 → (w.setCells g q vs).cell? ⟨g, o + j, none⟩ = w.cell? ⟨g, o + j, none⟩ := fun j hj => World.cell?_setCells_out g vs q w ⟨g, o + j, none⟩ (fun _ _ => .inl (by show o + j < q; omega))
  exact ⟨(e 0 (by omega)).trans h.kind, (e 1 (by omega)).trans h.path, (e 2 (by omega)).trans h.body, (e 3 (by omega)).trans h.rev, (e 4 (by omega)).trans h.before⟩

theorem NInv.there {w : World} {hb mb G k0 : Nat} {D : DataW Unit} {L : List DX} {rev : Int} {i : Nat} {wr w2 : World} (h : NInv w hb mb G k0 D L rev i wr) (hi : i < L.length) (hbl : Below wr.heap.size wr w2) : w2.there G (i * 5) 5 := by
  obtain ⟨cur, hc, hs⟩ := h.blk
  have hg : G < wr.heap.size := (Array.getElem?_eq_some_iff.1 hc).1
  have hc2 : w2.heap[G]? = some (.cells cur 93 (0, 0)) := (hbl.block G hg).trans hc
  intro j hj
  refine ⟨?_, by simp [World.frozen?, hc2]⟩
  rw [cell_of_row w2 G (i * 5 + j) _ _ _ hc2, Array.getElem?_eq_getElem (by omega)]; rfl

theorem NInv.next {w : World} {hb mb G k0 : Nat} {D : DataW Unit} {L : List DX} {rev : Int} {i : Nat} {wr w2 V : World} {x : DX} {A' : Option Addr} {c' : Nat} {bv : Value} (h : NInv w hb mb G k0 D L rev i wr) (hx : L[i]? = some x) (hbl : Below wr.heap.size wr w2) (hbo : BytesOwn w2 A' x.b)
    (hbv : bv = ptrOf (atS (laidS D G (L.map fun x => x.p.data.toList) i) x.p.data.toList))
    (hm : MapAt V mb (k0 + i + 1) (putS (laidS D G (L.map fun x => x.p.data.toList) i) x.p.data.toList (addrOf G (i * 5)))) (hg : (w2.setCells G (i * 5) [.int .i64 x.k, .string x.p, .slice A' x.b.length c', .int .i64 rev, bv]).grownBy V (some mb)) :
    NInv w hb mb G k0 D L rev (i + 1) V := by
  have hi : i < L.length := (List.getElem?_eq_some_iff.1 hx).1
  have ht := h.there hi hbl
  obtain ⟨cur, hc, hs⟩ := h.blk
  have hgl : G < wr.heap.size := (Array.getElem?_eq_some_iff.1 hc).1
  have hc2 : w2.heap[G]? = some (.cells cur 93 (0, 0)) := (hbl.block G hgl).trans hc
  have hg2 : G < w2.heap.size := (Array.getElem?_eq_some_iff.1 hc2).1
  obtain ⟨cur', hc3, hs3⟩ := setCells_block G [.int .i64 x.k, .string x.p, .slice A' x.b.length c', .int .i64 rev, bv] (i * 5) w2 cur hc2
  have hne : G ≠ mb := by have := h.low; omega
  have hV : V.heap[G]? = (w2.setCells G (i * 5) [.int .i64 x.k, .string x.p, .slice A' x.b.length c', .int .i64 rev, bv]).heap[G]? := hg.block G (by rw [setCells_size]; exact hg2) (fun e => hne (by simpa using e))
  have hu : ∀ {A : Option Addr} {b : Bs}, BytesOwn w2 A b → BytesOwn V A b := fun hb => by
    have h1 : BytesOwn (w2.setCells G (i * 5) [.int .i64 x.k, .string x.p, .slice A' x.b.length c', .int .i64 rev, bv]) _ _ := hb.keep fun g cur2 hq => heap_setCells_other G g (fun e => by subst e; rw [hc2] at hq; cases hq) _ _ _
    refine h1.keep fun g cur2 hq => hg.block g (Array.getElem?_eq_some_iff.1 hq).1 (fun e => ?_)
    have e : g = mb := by simpa using e
    subst e
    obtain ⟨es, ck, he⟩ := h.map.block
    have hl : g < wr.heap.size := (Array.getElem?_eq_some_iff.1 he).1
    rw [heap_setCells_other G g (Ne.symm hne), hbl.block g hl, he] at hq
    cases hq
  refine ⟨h.low, ⟨cur', hV.trans hc3, by omega⟩, fun j y hj hy => ?_, ?_, ?_⟩
  · by_cases e : j = i
    · subst e
      rw [hx] at hy
      cases hy
      subst hbv
      have h1 := RecAt.of_range (World.rangeAt_setCells_same w2 G (j * 5) [.int .i64 x.k, .string x.p, .slice A' x.b.length c', .int .i64 rev, ptrOf (atS (laidS D G (L.map fun x => x.p.data.toList) j) x.p.data.toList)] ht)
      exact ⟨A', c', h1.keep fun _ => hV, hu hbo⟩
    · obtain ⟨A2, c2, h1, h2⟩ := h.recs j y (by omega) hy
      refine ⟨A2, c2, ?_, hu (h2.below hbl)⟩
      have h3 : RecAt w2 G (j * 5) _ _ _ _ _ _ _ := h1.keep fun hl => hbl.block G hl
      exact (h3.apart (i * 5) [.int .i64 x.k, .string x.p, .slice A' x.b.length c', .int .i64 rev, bv] (by omega)).keep fun _ => hV
  · have e : (L.map fun x => x.p.data.toList).getD i [] = x.p.data.toList := by
      rw [List.getD_eq_getElem?_getD, List.getElem?_map, hx]; rfl
    show MapAt V mb (k0 + i + 1) (putS _ _ _)
    rw [e]
    exact hm
  · refine ⟨hg.os.trans ((setCells_rest G _ _ _).1.trans (hbl.os.trans h.grown.os)), hg.tape.trans ((setCells_rest G _ _ _).2.1.trans (hbl.tape.trans h.grown.tape)), hg.output.trans ((setCells_rest G _ _ _).2.2.trans (hbl.output.trans h.grown.output)),
      Nat.le_trans h.grown.size (Nat.le_trans hbl.size (by have := hg.size; rwa [setCells_size] at this)), fun k hk hkn => ?_⟩
    have hkg : k ≠ G := by have := h.low; omega
    have hk1 : k < wr.heap.size := Nat.lt_of_lt_of_le hk h.grown.size
    have hk2 : k < w2.heap.size := Nat.lt_of_lt_of_le hk1 hbl.size
    rw [hg.block k (by rw [setCells_size]; exact hk2) hkn, heap_setCells_other G k hkg, hbl.block k hk1, h.grown.block k hk hkn]
end Go.Proofs.YtnkfnmkbfnhmfaaDoor
