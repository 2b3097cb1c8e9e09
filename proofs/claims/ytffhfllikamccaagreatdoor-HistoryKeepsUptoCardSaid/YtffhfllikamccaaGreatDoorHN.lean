/-
  What stands in memory while the records of one more revision are laid; the store into the map. · The program's note of layer 3 (history).
-/
import Derived.Test.YtffhfllikamccaaGreatDoorHBare
import Derived.Deep.MidRow
import Derived.Deep.RegionHeld3
import Derived.BigQuiet
import Derived.OwnWalk
namespace Go.Proofs.YtffhfllikamccaaGreatDoor
open Go Go.RowKit Go.Shelf Go.Proofs Go.ChangeMaps Go.Maps Go.WideMaps

theorem MapAt.look_eq {w : World} {mb k : Nat} {D : DataW Unit} (h : MapAt w mb k D) (s : ByteArray) (hs : s.size ≤ maxLen) :
    (Instr.lookup 72 (.map (some mb)) (.string s) false).run Tryz.prog w = .ok (ptrOf (atS D s.data.toList)) w := by
  obtain ⟨v, ps, hrun, hv⟩ := h.look s hs
  rw [hrun, ptrOf_of hv]
theorem MapAt.below {w w' : World} {mb k : Nat} {D : DataW Unit} (h : MapAt w mb k D) (hb : Below w.heap.size w w') : MapAt w' mb k D := by
  have h' : w.ownsMap Tryz.prog 9 ptrD mb k D := h
  have hl := h'.lt
  obtain ⟨es, clock, he, F, hs, hD⟩ := h'
  exact ⟨es, clock, (hb.block mb hl).trans he, F, hs, hD⟩
theorem MapAt.keep {w w' : World} {mb k : Nat} {D : DataW Unit} (h : MapAt w mb k D) (hk : w'.heap[mb]? = w.heap[mb]?) : MapAt w' mb k D := by
  obtain ⟨es, clock, he, F, hs, hD⟩ := h
  exact ⟨es, clock, hk.trans he, F, hs, hD⟩
theorem MapAt.block {w : World} {mb k : Nat} {D : DataW Unit} (h : MapAt w mb k D) : ∃ es clock, w.heap[mb]? = some (.map es clock) := by
  obtain ⟨es, clock, he, _⟩ := h
  exact ⟨es, clock, he⟩
theorem MapAt.isMap {w : World} {mb k : Nat} {D : DataW Unit} (h : MapAt w mb k D) : IsMap D := by
  obtain ⟨es, clock, he, _, _, rfl⟩ := h
  exact ⟨_, rfl⟩
theorem wp_putS {o : Oper} {a : Act} {w : World} {K : Act → World → Prop} {Q : Exit → Act → World → Prop} (m x v : Operand) (ho : o.op = .mapUpdate 72 m x v) (mb k : Nat) (D : DataW Unit) (hm : a.eval m = .map (some mb)) (hown : MapAt w mb k D) (hk : k < maxLen)
    (s : ByteArray) (hx : a.eval x = .string s) (hs : s.size ≤ maxLen) (g p : Nat) (hv : a.eval v = .pointer (some ⟨g, p, none⟩))
    (h : ∀ w', MapAt w' mb (k + 1) (putS D s.data.toList (addrOf g p)) → w.grownBy w' (some mb) → K (a.put o.dst undef) w') : o.wp Tryz.prog a w K Q := by
  have hown' : w.ownsMap Tryz.prog 9 ptrD mb k D := hown
  obtain ⟨w', hrun, r1, r2⟩ := hown'.update (e := 83) hlaw Tryz.underlying72 hk (keyOf_string_mk Tryz.underlying9 hs) (ptrD_some g p)
  unfold Oper.wp
  simp [execOp, ho, hm, hx, hv, hrun, Result.andThen]
  exact h w' r1 r2

theorem heap_setCells_other (b k : Nat) (h : k ≠ b) : ∀ (vs : List Value) (o : Nat) (w : World), (w.setCells b o vs).heap[k]? = w.heap[k]?
  | [], _, _ => rfl
  | v :: r, o, w => by
    rw [World.setCells, heap_setCells_other b k h r]
    exact Below.heap_setCell _ _ _ _ h
theorem setCells_size (b : Nat) : ∀ (vs : List Value) (o : Nat) (w : World), (w.setCells b o vs).heap.size = w.heap.size
  | [], _, _ => rfl
  | v :: r, o, w => by
    rw [World.setCells, setCells_size b r]
    simp [World.setCell]
theorem setCells_rest (b : Nat) : ∀ (vs : List Value) (o : Nat) (w : World), (w.setCells b o vs).os = w.os ∧ (w.setCells b o vs).tape = w.tape ∧ (w.setCells b o vs).output = w.output
  | [], _, _ => ⟨rfl, rfl, rfl⟩
  | v :: r, o, w => by
    rw [World.setCells]
    obtain ⟨h1, h2, h3⟩ := setCells_rest b r (o + 1) (w.setCell ⟨b, o, none⟩ v)
    exact ⟨h1, h2, h3⟩
theorem setCells_block (b : Nat) {t : TypeId} {fr : Nat × Nat} : ∀ (vs : List Value) (o : Nat) (w : World) (cur : Array Value), w.heap[b]? = some (.cells cur t fr) → ∃ cur', (w.setCells b o vs).heap[b]? = some (.cells cur' t fr) ∧ cur'.size = cur.size
  | [], _, _, cur, h => ⟨cur, h, rfl⟩
  | v :: r, o, w, cur, h => by
    rw [World.setCells]
    have h2 : (w.setCell ⟨b, o, none⟩ v).heap[b]? = some (.cells (cur.setIfInBounds o v) t fr) := by
      rw [setCell_eq_setRow w b o cur t fr v h]
      exact setRow_heap _ _ _ _ _ _ h
    obtain ⟨cur', h3, h4⟩ := setCells_block b r (o + 1) _ _ h2
    exact ⟨cur', h3, by rw [h4, Array.size_setIfInBounds]⟩

/-- The records of the first i changes are laid. -/
structure NInv (w : World) (hb mb G k0 : Nat) (D : DataW Unit) (L : List DX) (rev : Int) (i : Nat) (wr : World) : Prop where
  low : mb < w.heap.size ∧ w.heap.size ≤ G
  blk : ∃ cur, wr.heap[G]? = some (.cells cur 85 (0, 0)) ∧ cur.size = L.length * 5
  recs : ∀ j x, j < i → L[j]? = some x → ∃ (A' : Option Addr) (c' : Nat), RecAt wr G (j * 5) x.k x.p A' x.b.length c' rev (ptrOf (atS (laidS D G (L.map fun x => x.p.data.toList) j) x.p.data.toList)) ∧ BytesOwn wr A' x.b
  map : MapAt wr mb (k0 + i) (laidS D G (L.map fun x => x.p.data.toList) i)
  grown : w.grownBy wr (some mb)
theorem grown_trans' {a b c : World} {r : Option Nat} (h : a.grownBy b r) (k : b.grownBy c r) : a.grownBy c r := ⟨k.os.trans h.os, k.tape.trans h.tape, k.output.trans h.output, Nat.le_trans h.size k.size, fun i hi hne => (k.block i (Nat.lt_of_lt_of_le hi h.size) hne).trans (h.block i hi hne)⟩
theorem RecAt.of_range {w : World} {g o : Nat} {k : Int} {p : ByteArray} {A : Option Addr} {n c : Nat} {rev : Int} {bv : Value} (h : w.rangeAt g o [.int .i64 k, .string p, .slice A n c, .int .i64 rev, bv]) : RecAt w g o k p A n c rev bv :=
  ⟨h 0 _ rfl, h 1 _ rfl, h 2 _ rfl, h 3 _ rfl, h 4 _ rfl⟩
theorem RecAt.apart {w : World} {g o : Nat} {k : Int} {p : ByteArray} {A : Option Addr} {n c : Nat} {rev : Int} {bv : Value} (h : RecAt w g o k p A n c rev bv) (q : Nat) (vs : List Value) (hq : o + 5 ≤ q) : RecAt (w.setCells g q vs) g o k p A n c rev bv := by
  have e : ∀ j, j < 5 → (w.setCells g q vs).cell? ⟨g, o + j, none⟩ = w.cell? ⟨g, o + j, none⟩ := fun j hj => World.cell?_setCells_out g vs q w ⟨g, o + j, none⟩ (fun _ _ => .inl (by show o + j < q; omega))
  exact ⟨(e 0 (by omega)).trans h.kind, (e 1 (by omega)).trans h.path, (e 2 (by omega)).trans h.body, (e 3 (by omega)).trans h.rev, (e 4 (by omega)).trans h.before⟩

theorem NInv.there {w : World} {hb mb G k0 : Nat} {D : DataW Unit} {L : List DX} {rev : Int} {i : Nat} {wr w2 : World} (h : NInv w hb mb G k0 D L rev i wr) (hi : i < L.length) (hbl : Below wr.heap.size wr w2) : w2.there G (i * 5) 5 := by
  obtain ⟨cur, hc, hs⟩ := h.blk
  have hg : G < wr.heap.size := (Array.getElem?_eq_some_iff.1 hc).1
  have hc2 : w2.heap[G]? = some (.cells cur 85 (0, 0)) := (hbl.block G hg).trans hc
  intro j hj
  refine ⟨?_, by simp [World.frozen?, hc2]⟩
  rw [cell_of_row w2 G (i * 5 + j) _ _ _ hc2, Array.getElem?_eq_getElem (by omega)]; rfl

theorem NInv.next {w : World} {hb mb G k0 : Nat} {D : DataW Unit} {L : List DX} {rev : Int} {i : Nat} {wr w2 V : World} {x : DX} {A' : Option Addr} {c' : Nat} {bv : Value} (h : NInv w hb mb G k0 D L rev i wr) (hx : L[i]? = some x) (hbl : Below wr.heap.size wr w2) (hbo : BytesOwn w2 A' x.b)
    (hbv : bv = ptrOf (atS (laidS D G (L.map fun x => x.p.data.toList) i) x.p.data.toList))
    (hm : MapAt V mb (k0 + i + 1) (putS (laidS D G (L.map fun x => x.p.data.toList) i) x.p.data.toList (addrOf G (i * 5)))) (hg : (w2.setCells G (i * 5) [.int .i64 x.k, .string x.p, .slice A' x.b.length c', .int .i64 rev, bv]).grownBy V (some mb)) :
    NInv w hb mb G k0 D L rev (i + 1) V := by
  have hi : i < L.length := (List.getElem?_eq_some_iff.1 hx).1
  have ht := h.there hi hbl
  obtain ⟨cur, hc, hs⟩ := h.blk
  have hgl : G < wr.heap.size := (Array.getElem?_eq_some_iff.1 hc).1
  have hc2 : w2.heap[G]? = some (.cells cur 85 (0, 0)) := (hbl.block G hgl).trans hc
  have hg2 : G < w2.heap.size := (Array.getElem?_eq_some_iff.1 hc2).1
  obtain ⟨cur', hc3, hs3⟩ := setCells_block G [.int .i64 x.k, .string x.p, .slice A' x.b.length c', .int .i64 rev, bv] (i * 5) w2 cur hc2
  have hne : G ≠ mb := by have := h.low; omega
  have hV : V.heap[G]? = (w2.setCells G (i * 5) [.int .i64 x.k, .string x.p, .slice A' x.b.length c', .int .i64 rev, bv]).heap[G]? := hg.block G (by rw [setCells_size]; exact hg2) (fun e => hne (by simpa using e))
  have hu : ∀ {A : Option Addr} {b : Bs}, BytesOwn w2 A b → BytesOwn V A b := fun hb => by
    have h1 : BytesOwn (w2.setCells G (i * 5) [.int .i64 x.k, .string x.p, .slice A' x.b.length c', .int .i64 rev, bv]) _ _ := hb.keep fun g cur2 hq => heap_setCells_other G g (fun e => by subst e; rw [hc2] at hq; cases hq) _ _ _
    refine h1.keep fun g cur2 hq => hg.block g (Array.getElem?_eq_some_iff.1 hq).1 (fun e => ?_)
    have e : g = mb := by simpa using e
    subst e
    obtain ⟨es, ck, he⟩ := h.map.block
    have hl : g < wr.heap.size := (Array.getElem?_eq_some_iff.1 he).1
    rw [heap_setCells_other G g (Ne.symm hne), hbl.block g hl, he] at hq
    cases hq
  refine ⟨h.low, ⟨cur', hV.trans hc3, by omega⟩, fun j y hj hy => ?_, ?_, ?_⟩
  · by_cases e : j = i
    · subst e
      rw [hx] at hy
      cases hy
      subst hbv
      have h1 := RecAt.of_range (World.rangeAt_setCells_same w2 G (j * 5) [.int .i64 x.k, .string x.p, .slice A' x.b.length c', .int .i64 rev, ptrOf (atS (laidS D G (L.map fun x => x.p.data.toList) j) x.p.data.toList)] ht)
      exact ⟨A', c', h1.keep fun _ => hV, hu hbo⟩
    · obtain ⟨A2, c2, h1, h2⟩ := h.recs j y (by omega) hy
      refine ⟨A2, c2, ?_, hu (h2.below hbl)⟩
      have h3 : RecAt w2 G (j * 5) _ _ _ _ _ _ _ := h1.keep fun hl => hbl.block G hl
      exact (h3.apart (i * 5) [.int .i64 x.k, .string x.p, .slice A' x.b.length c', .int .i64 rev, bv] (by omega)).keep fun _ => hV
  · have e : (L.map fun x => x.p.data.toList).getD i [] = x.p.data.toList := by
      rw [List.getD_eq_getElem?_getD, List.getElem?_map, hx]; rfl
    show MapAt V mb (k0 + i + 1) (putS _ _ _)
    rw [e]
    exact hm
  · refine ⟨hg.os.trans ((setCells_rest G _ _ _).1.trans (hbl.os.trans h.grown.os)), hg.tape.trans ((setCells_rest G _ _ _).2.1.trans (hbl.tape.trans h.grown.tape)), hg.output.trans ((setCells_rest G _ _ _).2.2.trans (hbl.output.trans h.grown.output)),
      Nat.le_trans h.grown.size (Nat.le_trans hbl.size (by have := hg.size; rwa [setCells_size] at this)), fun k hk hkn => ?_⟩
    have hkg : k ≠ G := by have := h.low; omega
    have hk1 : k < wr.heap.size := Nat.lt_of_lt_of_le hk h.grown.size
    have hk2 : k < w2.heap.size := Nat.lt_of_lt_of_le hk1 hbl.size
    rw [hg.block k (by rw [setCells_size]; exact hk2) hkn, heap_setCells_other G k hkg, hbl.block k hk1, h.grown.block k hk hkn]
end Go.Proofs.YtffhfllikamccaaGreatDoor
namespace Go.Proofs.YtffhfllikamccaaGreatDoor
open Go Go.RowKit Go.Shelf Go.Proofs Go.ChangeMaps Go.Maps Go.WideMaps

theorem step_wanted3 {P : Program} {ops : Array Oper} {o : Oper} {a : Act} {w : World} {K : Act → World → Prop} {Q : Exit → Act → World → Prop} {E : Prop} (hgd : o.guard = none) (h : Oper.wp P o a w K Q) : if Region.wanted o (yielded ops a.tmps) = true then Oper.wp P o a w K Q else E := by
  rw [if_pos (by simp [Region.wanted, hgd])]
  exact h
theorem hmap_some (bm : Nat) (w : World) : (binOp .eql 72 (.map (some bm)) (.map none)).run Tryz.prog w = .ok (.bool false) w := by kernel_rfl
theorem hmap_none (w : World) : (binOp .eql 72 (.map none) (.map none)).run Tryz.prog w = .ok (.bool true) w := by kernel_rfl
theorem record_info : (Tryz.prog.info? 85).map (fun i => (i.zero, i.size, i.bytes)) = some (some (.agg #[.int .i64 0, .string ⟨#[]⟩, .slice none 0 0, .int .i64 0, .pointer none]), 5, 64) := by kernel_rfl
theorem record_size : (Tryz.prog.info? 85).map (·.size) = some 5 := by kernel_rfl
theorem block_cells {w : World} {g o : Nat} {v : Value} (h : w.cell? ⟨g, o, none⟩ = some v) : ∃ C t fr, w.heap[g]? = some (.cells C t fr) := by
  unfold World.cell? at h
  cases hg : w.heap[g]? with
  | none => simp [hg] at h
  | some ob =>
    cases ob with
    | cells C t fr => exact ⟨C, t, fr, rfl⟩
    | _ => simp [hg] at h
theorem DelsAt.cells {w : World} {A : Option Addr} {c : Nat} {L : List DX} {k : Nat} {x : DX} (h : DelsAt w A c L) (hx : L[k]? = some x) : ∃ g o, A = some ⟨g, o, none⟩ ∧ g < w.heap.size ∧ (∃ C t fr, w.heap[g]? = some (.cells C t fr)) ∧ ∀ w' : World, w'.heap[g]? = w.heap[g]? →
    w'.cell? ⟨g, o + k * 3, none⟩ = some (.int .i64 x.k) ∧ w'.cell? ⟨g, o + k * 3 + 1, none⟩ = some (.string x.p) ∧ w'.cell? ⟨g, o + k * 3 + 2, none⟩ = some (.slice x.A x.b.length x.c) := by
  obtain ⟨hk, _⟩ := List.getElem?_eq_some_iff.1 hx
  obtain ⟨g, o, e, hr⟩ := h.row (by omega)
  obtain ⟨h1, h2, h3⟩ := hr k x hx
  have hl : g < w.heap.size := World.block_lt_of_cell? w (a := ⟨g, o + k * 3, none⟩) h1
  refine ⟨g, o, e, hl, ?_, fun w' hw => ⟨(World.cell?_of_block (a := ⟨g, o + k * 3, none⟩) hw).trans h1, (World.cell?_of_block (a := ⟨g, o + k * 3 + 1, none⟩) hw).trans h2, (World.cell?_of_block (a := ⟨g, o + k * 3 + 2, none⟩) hw).trans h3⟩⟩
  exact block_cells h1
theorem BytesAt.grownMap {w w' : World} {A : Option Addr} {b : Bs} {mb : Nat} (h : BytesAt w A b) (hg : w.grownBy w' (some mb)) (hm : ∃ es ck, w.heap[mb]? = some (.map es ck)) : BytesAt w' A b := fun hn => by
  obtain ⟨g, o, e, hc⟩ := h hn
  refine ⟨g, o, e, fun i hi => ?_⟩
  have h1 := hc i hi
  obtain ⟨C, t, fr, h2⟩ := block_cells h1
  have hl : g < w.heap.size := (Array.getElem?_eq_some_iff.1 h2).1
  refine (World.cell?_of_block (a := ⟨g, o + i, none⟩) (hg.block g hl (fun e2 => ?_))).trans h1
  have e2 : g = mb := by simpa using e2
  subst e2
  obtain ⟨es, ck, h3⟩ := hm
  rw [h2] at h3; cases h3
theorem DelsAt.behind {w w' : World} {A : Option Addr} {c : Nat} {L : List DX} (h : DelsAt w A c L) (h1 : ∀ g o, A = some ⟨g, o, none⟩ → g < w.heap.size → w'.heap[g]? = w.heap[g]?) (h2 : ∀ x ∈ L, BytesAt w' x.A x.b) : DelsAt w' A c L := by
  refine ⟨h.cap, h.capm, fun hn => ?_, h2⟩
  obtain ⟨g, o, e, hr⟩ := h.row hn
  refine ⟨g, o, e, fun i x hx => ?_⟩
  obtain ⟨a1, a2, a3⟩ := hr i x hx
  have hl : g < w.heap.size := World.block_lt_of_cell? w (a := ⟨g, o + i * 3, none⟩) a1
  have e2 := h1 g o e hl
  exact ⟨(World.cell?_of_block (a := ⟨g, o + i * 3, none⟩) e2).trans a1, (World.cell?_of_block (a := ⟨g, o + i * 3 + 1, none⟩) e2).trans a2, (World.cell?_of_block (a := ⟨g, o + i * 3 + 2, none⟩) e2).trans a3⟩
theorem NInv.zero {w w1 : World} {hb mb k0 : Nat} {D : DataW Unit} {L : List DX} {rev : Int} (hm : MapAt w mb k0 D) {xs : List Value} (ho : w1.ownsRow w.heap.size 85 5 (.slice (some ⟨w.heap.size, 0, none⟩) L.length L.length) L.length xs) (hg : w.grownBy w1 none) : NInv w hb mb w.heap.size k0 D L rev 0 w1 := by
  have hl : mb < w.heap.size := by
    obtain ⟨es, ck, he⟩ := hm.block
    exact (Array.getElem?_eq_some_iff.1 he).1
  refine ⟨⟨hl, Nat.le_refl _⟩, ?_, fun j x hj => absurd hj (Nat.not_lt_zero _), hm.keep (hg.block mb hl (by simp)), ⟨hg.os, hg.tape, hg.output, hg.size, fun k hk _ => hg.block k hk (by simp)⟩⟩
  rcases ho.2 with ⟨h0, _⟩ | ⟨g, cap, cur, h0, _, h2, _, _, h5, _⟩
  · cases h0
  · cases h0
    exact ⟨cur, h2, h5⟩

set_option maxRecDepth 100000 in
set_option maxHeartbeats 16000000 in
theorem hnote_any (hb mb k0 rev : Nat) (D : DataW Unit) (L : List DX) (B : Option Addr) (d : Nat) (w : World) (h2 : w.cell? ⟨hb, 2, none⟩ = some (.map (some mb))) (hmap : MapAt w mb k0 D) (hd : DelsAt w B d L) (hs : SmallD L) (hk0 : k0 + L.length < maxLen) :
    Calls Tryz.prog 29 #[.pointer (some ⟨hb, 0, none⟩), .int .i64 rev, .slice B L.length d] w fun e w' => e = .returned (.slice (some ⟨w.heap.size, 0, none⟩) L.length L.length) ∧ NInv w hb mb w.heap.size k0 D L rev L.length w' := by
  have hl : L.length ≤ 10000 := hs.1
  have HD := Lib.hid hd; clear hd
  have HM := Lib.hid hmap
  have HS0 := Lib.hid hs.2
  have HH2 := Lib.hid h2
  have hbl : hb < w.heap.size := World.block_lt_of_cell? w (a := ⟨hb, 2, none⟩) h2
  have hmbl : mb < w.heap.size := by
    obtain ⟨es, ck, he⟩ := hmap.block
    exact (Array.getElem?_eq_some_iff.1 he).1
  have hne : hb ≠ mb := fun e => by
    subst e
    obtain ⟨es, ck, he⟩ := hmap.block
    obtain ⟨C, t, fr, hc⟩ := block_cells h2
    rw [he] at hc; cases hc
  have HNE := Lib.hid hne
  have HBL := Lib.hid hbl
  have HMBL := Lib.hid hmbl
  have HK0 := Lib.hid hk0
  obtain ⟨i0, hi, hz0, hz1, hz2⟩ := info_parts record_info
  have hms := hmap_some mb
  clear hmap hs hbl hmbl hne hk0
  go_enter Tryz.func29, Tryz.ntmps29
  go_wp2_with (refine wpList_make_full _ rfl _ _ 75 rfl w.heap.size 85 i0 (.agg #[.int .i64 0, .string ⟨#[]⟩, .slice none 0 0, .int .i64 0, .pointer none]) 5 Tryz.underlying75 hi hz0 hz1 .i64 .i64 _ _ L.length rfl rfl rfl rfl (by rw [hz2]; omega) (by unfold maxLen; omega) (Nat.le_refl _) ?_; intro w1 hown hgrow)
  have h0 := NInv.zero (hb := hb) (rev := rev) HM.out hown hgrow
  clear hown hgrow h2 hi hz0 hz1 hz2
  go_loopw [24] (fun i wr => ∃ (k : Nat), k ≤ L.length ∧ i = .int .i64 k ∧ NInv w hb mb w.heap.size k0 D L rev k wr) (fun i _ => L.length - (intOf i).toNat)
  case atStart => exact ⟨0, Nat.zero_le _, rfl, h0⟩
  case round =>
    clear h0
    obtain ⟨k, hk, rfl, hN⟩ := hrel
    by_cases h1 : k < L.length
    · obtain ⟨x, hx⟩ : ∃ x, L[k]? = some x := ⟨_, List.getElem?_eq_getElem h1⟩
      obtain ⟨g, o, hB, hgl, ⟨C, tc, fr, hgc⟩, hcs⟩ := HD.out.cells hx
      have hgm : g ≠ mb := fun e => by
        subst e
        obtain ⟨es, ck, he⟩ := HM.out.block
        rw [he] at hgc; cases hgc
      subst hB
      obtain ⟨c1, c2, c3⟩ := hcs wr (hN.grown.block g hgl (fun e => hgm (by simpa using e)))
      have c4 : wr.cell? ⟨hb, 2, none⟩ = some (.map (some mb)) := (World.cell?_of_block (a := ⟨hb, 2, none⟩) (hN.grown.block hb HBL.out (fun e => HNE.out (by simpa using e)))).trans HH2.out
      have hmem := List.mem_of_getElem? hx
      have hsz := HS0.out x hmem
      have HL := Lib.hid hsz.2
      have HP := Lib.hid (show x.p.size ≤ maxLen by have := hsz.1; unfold maxLen; omega)
      have hlk := hN.map.look_eq x.p (by have := hsz.1; unfold maxLen; omega)
      have k1 : (k : Int) < (L.length : Int) := by omega
      have HX := Lib.hid hx
      have HKL := Lib.hid h1
      have hby : BytesAt wr x.A x.b := (HD.out.bytes x hmem).grownMap hN.grown HM.out.block
      have HBY := Lib.hid hby
      obtain ⟨bv, hbv⟩ := ptrOf_ptr (atS (laidS D w.heap.size (L.map fun x => x.p.data.toList) k) x.p.data.toList)
      rw [hbv] at hlk
      have HBV := Lib.hid hbv.symm
      have HN := Lib.hid hN
      clear hx hgl hgc hcs hgm hmem hsz hby hbv hN
      go_wp2_with fail
      obtain ⟨W1, hW1⟩ : ∃ W, wr.alloc (.cells #[.int .i64 x.k, .string x.p, .slice x.A x.b.length x.c] 62) = W := ⟨_, rfl⟩
      have g1 := heap_alloc_new wr (.cells #[.int .i64 x.k, .string x.p, .slice x.A x.b.length x.c] 62)
      have hb1 := below_box wr (.cells #[.int .i64 x.k, .string x.p, .slice x.A x.b.length x.c] 62)
      have hlt : wr.heap.size < W1.heap.size := by rw [← hW1]; simp
      rw [hW1] at g1 hb1 ⊢
      have hbw : hb < wr.heap.size := Nat.lt_of_lt_of_le HBL.out HN.out.grown.size
      have hmw : mb < wr.heap.size := Nat.lt_of_lt_of_le HMBL.out HN.out.grown.size
      have hgw : w.heap.size < wr.heap.size := by
        obtain ⟨cur, hc, _⟩ := HN.out.blk
        exact (Array.getElem?_eq_some_iff.1 hc).1
      have hS : ∀ W : World, W.heap[wr.heap.size]? = W1.heap[wr.heap.size]? → W.heap[hb]? = wr.heap[hb]? → W.heap[mb]? = wr.heap[mb]? → (W.cell? ⟨wr.heap.size, 0, none⟩ = some (.int .i64 x.k) ∧ W.cell? ⟨wr.heap.size, 1, none⟩ = some (.string x.p) ∧ W.cell? ⟨wr.heap.size, 2, none⟩ = some (.slice x.A x.b.length x.c) ∧ W.cell? ⟨hb, 2, none⟩ = some (.map (some mb)) ∧ (Instr.lookup 72 (.map (some mb)) (.string x.p) false).run Tryz.prog W = .ok (.pointer bv) W) := fun W e1 e2 e3 =>
        ⟨cell_of_row W wr.heap.size 0 _ _ _ (e1.trans g1), cell_of_row W wr.heap.size 1 _ _ _ (e1.trans g1), cell_of_row W wr.heap.size 2 _ _ _ (e1.trans g1), (World.cell?_of_block (a := ⟨hb, 2, none⟩) e2).trans c4, by
          have h := (HN.out.map.keep e3).look_eq x.p HP.out
          rw [h, HBV.out]⟩
      have hS0 := hS W1.drew rfl (hb1.block _ hbw) (hb1.block _ hmw)
      have HS := Lib.hid hS
      have HB1 := Lib.hid hb1
      have HLT := Lib.hid hlt
      have HHB := Lib.hid hbw
      have HMB := Lib.hid hmw
      have HG1 := Lib.hid (show wr.heap.size ≠ w.heap.size by omega)
      have HG2 := Lib.hid (show hb ≠ w.heap.size by have := HBL.out; omega)
      have HG3 := Lib.hid (show mb ≠ w.heap.size by have := HMBL.out; omega)
      have HG4 := Lib.hid (show wr.heap.size ≠ mb by omega)
      have HGW := Lib.hid hgw
      clear g1 hb1 hlt hW1 hbw hmw hS hgw c1 c2 c3 c4 hlk
      refine wp_region_held_drew (S := (fun w' => w'.cell? ⟨wr.heap.size, 0, none⟩ = some (.int .i64 x.k) ∧ w'.cell? ⟨wr.heap.size, 1, none⟩ = some (.string x.p) ∧ w'.cell? ⟨wr.heap.size, 2, none⟩ = some (.slice x.A x.b.length x.c) ∧ w'.cell? ⟨hb, 2, none⟩ = some (.map (some mb)) ∧ (Instr.lookup 72 (.map (some mb)) (.string x.p) false).run Tryz.prog w' = .ok (.pointer bv) w')) (by kernel_rfl) ⟨hS0.1, hS0.2⟩ (fun hHeld => ?_)
      refine wpAnyH_take (i := 0) (v := ?vs0) rfl (by kernel_rfl) (by kernel_rfl) (by kernel_rfl) (fun _ _ _ h => h) (Or.inl ⟨by rfl, ?ys0⟩) (by assumption) ?rs0
      case ys0 =>
        intro w hSw
        (try dsimp only at hSw)
        go_simp
        first | done | with_reducible rfl
      try simp only [Act.put, List.getElem_toArray, List.getElem_cons_zero, List.setIfInBounds_toArray, List.set_cons_zero, List.set_cons_succ]
      refine wpAnyH_take (i := 1) (v := ?vs1) rfl (by kernel_rfl) (by kernel_rfl) (by kernel_rfl) (fun _ _ _ h => h) (Or.inl ⟨by rfl, ?ys1⟩) (by assumption) ?rs1
      case ys1 =>
        intro w hSw
        (try dsimp only at hSw)
        go_simp
        first | done | with_reducible rfl
      try simp only [Act.put, List.getElem_toArray, List.getElem_cons_zero, List.getElem_cons_succ, List.setIfInBounds_toArray, List.set_cons_zero, List.set_cons_succ]
      refine wpAnyH_take (i := 2) (v := ?vs2) rfl (by kernel_rfl) (by kernel_rfl) (by kernel_rfl) (fun _ _ _ h => h) (Or.inl ⟨by rfl, ?ys2⟩) (by assumption) ?rs2
      case ys2 =>
        intro w hSw
        (try dsimp only at hSw)
        go_simp
        first | done | with_reducible rfl
      try simp only [Act.put, List.getElem_toArray, List.getElem_cons_zero, List.getElem_cons_succ, List.setIfInBounds_toArray, List.set_cons_zero, List.set_cons_succ]
      refine wpAnyH_take (i := 4) (v := ?vs4) rfl (by kernel_rfl) (by kernel_rfl) (by kernel_rfl) (fun _ _ _ h => h) (Or.inl ⟨by rfl, ?ys4⟩) (by assumption) ?rs4
      case ys4 =>
        intro w hSw
        (try dsimp only at hSw)
        go_simp
        first | done | with_reducible rfl
      try simp only [Act.put, List.getElem_toArray, List.getElem_cons_zero, List.getElem_cons_succ, List.setIfInBounds_toArray, List.set_cons_zero, List.set_cons_succ]
      refine wpAnyH_take (i := 5) (v := ?vs5) rfl (by kernel_rfl) (by kernel_rfl) (by kernel_rfl) (fun _ _ _ h => h) (Or.inl ⟨by rfl, ?ys5⟩) (by assumption) ?rs5
      case ys5 =>
        intro w hSw
        (try dsimp only at hSw)
        go_simp
        first | done | with_reducible rfl
      try simp only [Act.put, List.getElem_toArray, List.getElem_cons_zero, List.getElem_cons_succ, List.setIfInBounds_toArray, List.set_cons_zero, List.set_cons_succ]
      refine wpAnyH_take (i := 6) (v := ?vs6) rfl (by kernel_rfl) (by kernel_rfl) (by kernel_rfl) (fun _ _ _ h => h) (Or.inl ⟨by rfl, ?ys6⟩) (by assumption) ?rs6
      case ys6 =>
        intro w hSw
        (try dsimp only at hSw)
        go_simp
        first | done | with_reducible rfl
      try simp only [Act.put, List.getElem_toArray, List.getElem_cons_zero, List.getElem_cons_succ, List.setIfInBounds_toArray, List.set_cons_zero, List.set_cons_succ]
      refine wpAnyH_take (i := 7) (v := ?vs7) rfl (by kernel_rfl) (by kernel_rfl) (by kernel_rfl) (fun _ _ _ h => h) (Or.inl ⟨by rfl, ?ys7⟩) (by assumption) ?rs7
      case ys7 =>
        intro w hSw
        (try dsimp only at hSw)
        go_simp
        first | done | with_reducible rfl
      try simp only [Act.put, List.getElem_toArray, List.getElem_cons_zero, List.getElem_cons_succ, List.setIfInBounds_toArray, List.set_cons_zero, List.set_cons_succ]
      refine wpAnyH_take (i := 8) (v := ?vs8) rfl (by kernel_rfl) (by kernel_rfl) (by kernel_rfl) (fun _ _ _ h => h) (Or.inl ⟨by rfl, ?ys8⟩) (by assumption) ?rs8
      case ys8 =>
        intro w hSw
        (try dsimp only at hSw)
        go_simp
        first | done | with_reducible rfl
      try simp only [Act.put, List.getElem_toArray, List.getElem_cons_zero, List.getElem_cons_succ, List.setIfInBounds_toArray, List.set_cons_zero, List.set_cons_succ]
      refine wpAnyH_take (i := 9) (v := ?vs9) rfl (by kernel_rfl) (by kernel_rfl) (by kernel_rfl) (fun _ _ _ h => h) (Or.inl ⟨by rfl, ?ys9⟩) (by assumption) ?rs9
      case ys9 =>
        intro w hSw
        (try dsimp only at hSw)
        go_simp
        first | done | with_reducible rfl
      try simp only [Act.put, List.getElem_toArray, List.getElem_cons_zero, List.getElem_cons_succ, List.setIfInBounds_toArray, List.set_cons_zero, List.set_cons_succ]
      refine wpAnyH_take (i := 10) (v := ?vs10) rfl (by kernel_rfl) (by kernel_rfl) (by kernel_rfl) (fun _ _ _ h => h) (Or.inl ⟨by rfl, ?ys10⟩) (by assumption) ?rs10
      case ys10 =>
        intro w hSw
        (try dsimp only at hSw)
        go_simp
        first | done | with_reducible rfl
      try simp only [Act.put, List.getElem_toArray, List.getElem_cons_zero, List.getElem_cons_succ, List.setIfInBounds_toArray, List.set_cons_zero, List.set_cons_succ]
      refine wpAnyH_take (i := 11) (v := ?vs11) rfl (by kernel_rfl) (by kernel_rfl) (by kernel_rfl) (fun _ _ _ h => h) (Or.inl ⟨by rfl, ?ys11⟩) (by assumption) ?rs11
      case ys11 =>
        intro w hSw
        (try dsimp only at hSw)
        go_simp
        first | done | with_reducible rfl
      try simp only [Act.put, List.getElem_toArray, List.getElem_cons_zero, List.getElem_cons_succ, List.setIfInBounds_toArray, List.set_cons_zero, List.set_cons_succ]
      refine wpAnyH_ready (rs := [3]) (by kernel_rfl) (by simp) ?_
      refine AllReadyH.cons rfl (fun K hK => ?_) AllReadyH.nil
      go_simp
      refine (hown_any x W1.drew (HBY.out.below HB1.out.drew) HL.out).mono ?_
      rintro e w2 ⟨A', c', rfl, hbo, hb2⟩
      have hb12 : Below wr.heap.size wr w2 := HB1.out.drew.trans (hb2.mono HB1.out.drew.size)
      have he2 : w2.heap[wr.heap.size]? = W1.heap[wr.heap.size]? := hb2.block _ HLT.out
      have hs7 := HS.out w2 he2 (hb12.block _ HHB.out) (hb12.block _ HMB.out)
      have HE2 := Lib.hid he2
      have HLTW2 := Lib.hid (show wr.heap.size < w2.heap.size from Nat.lt_of_lt_of_le HLT.out hb2.size)
      have HB12 := Lib.hid hb12
      have HBO := Lib.hid hbo
      clear hb2 hb12 hbo he2
      go_wp2_with fail
      refine hK.out _ _ hs7 (fun hHeld => ?_)
      clear hK K
      try simp only [Act.put, List.getElem_toArray, List.getElem_cons_zero, List.getElem_cons_succ, List.setIfInBounds_toArray, List.set_cons_zero, List.set_cons_succ]
      refine wpAnyH_take (i := 12) (v := ?vs12) rfl (by kernel_rfl) (by kernel_rfl) (by kernel_rfl) (fun _ _ _ h => h) (Or.inl ⟨by rfl, ?ys12⟩) (by assumption) ?rs12
      case ys12 =>
        intro w hSw
        (try dsimp only at hSw)
        go_simp
        first | done | with_reducible rfl
      try simp only [Act.put, List.getElem_toArray, List.getElem_cons_zero, List.getElem_cons_succ, List.setIfInBounds_toArray, List.set_cons_zero, List.set_cons_succ]
      refine wpAnyH_take (i := 13) (v := ?vs13) rfl (by kernel_rfl) (by kernel_rfl) (by kernel_rfl) (fun _ _ _ h => h) (Or.inl ⟨by rfl, ?ys13⟩) (by assumption) ?rs13
      case ys13 =>
        intro w hSw
        (try dsimp only at hSw)
        go_simp
        first | done | with_reducible rfl
      try simp only [Act.put, List.getElem_toArray, List.getElem_cons_zero, List.getElem_cons_succ, List.setIfInBounds_toArray, List.set_cons_zero, List.set_cons_succ]
      refine wpAnyH_ready (rs := [14]) (by kernel_rfl) (by simp) ?_
      refine AllReadyH.cons rfl (fun K hK => ?_) AllReadyH.nil
      have hth := HN.out.there HKL.out HB12.out
      refine step_wanted3 rfl (wp_store_mid 85 (.tmp 42) (.tmp 41) rfl w.heap.size (k * 5) #[.int .i64 x.k, .string x.p, .slice A' x.b.length c', .int .i64 rev, .pointer bv] rfl rfl hth record_size (by simp [Value.oneCell']) ?_)
      have hq : ∀ q, q ≠ w.heap.size → (w2.setCells w.heap.size (k * 5) [.int .i64 x.k, .string x.p, .slice A' x.b.length c', .int .i64 rev, .pointer bv]).heap[q]? = w2.heap[q]? := fun q h => heap_setCells_other w.heap.size q h _ _ _
      have hs8 := HS.out (w2.setCells w.heap.size (k * 5) [.int .i64 x.k, .string x.p, .slice A' x.b.length c', .int .i64 rev, .pointer bv]) ((hq _ HG1.out).trans HE2.out) ((hq _ HG2.out).trans (HB12.out.block _ HHB.out)) ((hq _ HG3.out).trans (HB12.out.block _ HMB.out))
      have HQM := Lib.hid ((hq _ HG3.out).trans (HB12.out.block _ HMB.out))
      have hsz8 := setCells_size w.heap.size [.int .i64 x.k, .string x.p, .slice A' x.b.length c', .int .i64 rev, .pointer bv] (k * 5) w2
      clear hth hq
      refine hK.out _ _ hs8 (fun hHeld => ?_)
      clear hK K
      try simp only [Act.put, List.getElem_toArray, List.getElem_cons_zero, List.getElem_cons_succ]
      refine wpAnyH_done (by kernel_rfl) ?_ _
      go_wp2_with fail
      obtain ⟨_, p1, _, p4, _⟩ := hs8
      have P1 := Lib.hid p1
      have P4 := Lib.hid p4
      clear hs7 hHeld
      obtain ⟨V, hV⟩ : ∃ V, w2.setCells w.heap.size (k * 5) [.int .i64 x.k, .string x.p, .slice A' x.b.length c', .int .i64 rev, .pointer bv] = V := ⟨_, rfl⟩
      rw [hV] at P1 P4 HQM hsz8 p1 p4 ⊢
      have HV := Lib.hid hV
      have hm8 : MapAt V.drew mb (k0 + k) (laidS D w.heap.size (L.map fun x => x.p.data.toList) k) := HN.out.map.keep HQM.out
      have HLT8 := Lib.hid (show wr.heap.size < V.heap.size by have := HB12.out.size; have := HLTW2.out; omega)
      have HHB8 := Lib.hid (show hb < V.heap.size by have := HB12.out.size; have := HHB.out; omega)
      clear hV
      refine wp_region_held_drew (S := (fun w' => w'.cell? ⟨wr.heap.size, 1, none⟩ = some (.string x.p) ∧ w'.cell? ⟨hb, 2, none⟩ = some (.map (some mb)))) (by kernel_rfl) ⟨P1.out, P4.out⟩ (fun hHeld => ?_)
      refine wpAnyH_take (i := 0) (v := ?vu0) rfl (by kernel_rfl) (by kernel_rfl) (by kernel_rfl) (fun _ _ _ h => h) (Or.inl ⟨by rfl, ?yu0⟩) (by assumption) ?ru0
      case yu0 =>
        intro w hSw
        (try dsimp only at hSw)
        go_simp
        first | done | with_reducible rfl
      try simp only [Act.put, List.getElem_toArray, List.getElem_cons_zero, List.setIfInBounds_toArray, List.set_cons_zero, List.set_cons_succ]
      refine wpAnyH_take (i := 1) (v := ?vu1) rfl (by kernel_rfl) (by kernel_rfl) (by kernel_rfl) (fun _ _ _ h => h) (Or.inl ⟨by rfl, ?yu1⟩) (by assumption) ?ru1
      case yu1 =>
        intro w hSw
        (try dsimp only at hSw)
        go_simp
        first | done | with_reducible rfl
      try simp only [Act.put, List.getElem_toArray, List.getElem_cons_zero, List.getElem_cons_succ, List.setIfInBounds_toArray, List.set_cons_zero, List.set_cons_succ]
      refine wpAnyH_take (i := 2) (v := ?vu2) rfl (by kernel_rfl) (by kernel_rfl) (by kernel_rfl) (fun _ _ _ h => h) (Or.inl ⟨by rfl, ?yu2⟩) (by assumption) ?ru2
      case yu2 =>
        intro w hSw
        (try dsimp only at hSw)
        go_simp
        first | done | with_reducible rfl
      try simp only [Act.put, List.getElem_toArray, List.getElem_cons_zero, List.getElem_cons_succ, List.setIfInBounds_toArray, List.set_cons_zero, List.set_cons_succ]
      refine wpAnyH_take (i := 3) (v := ?vu3) rfl (by kernel_rfl) (by kernel_rfl) (by kernel_rfl) (fun _ _ _ h => h) (Or.inl ⟨by rfl, ?yu3⟩) (by assumption) ?ru3
      case yu3 =>
        intro w hSw
        (try dsimp only at hSw)
        go_simp
        first | done | with_reducible rfl
      try simp only [Act.put, List.getElem_toArray, List.getElem_cons_zero, List.getElem_cons_succ, List.setIfInBounds_toArray, List.set_cons_zero, List.set_cons_succ]
      refine wpAnyH_take (i := 4) (v := ?vu4) rfl (by kernel_rfl) (by kernel_rfl) (by kernel_rfl) (fun _ _ _ h => h) (Or.inl ⟨by rfl, ?yu4⟩) (by assumption) ?ru4
      case yu4 =>
        intro w hSw
        (try dsimp only at hSw)
        go_simp
        first | done | with_reducible rfl
      try simp only [Act.put, List.getElem_toArray, List.getElem_cons_zero, List.getElem_cons_succ, List.setIfInBounds_toArray, List.set_cons_zero, List.set_cons_succ]
      refine wpAnyH_take (i := 5) (v := ?vu5) rfl (by kernel_rfl) (by kernel_rfl) (by kernel_rfl) (fun _ _ _ h => h) (Or.inl ⟨by rfl, ?yu5⟩) (by assumption) ?ru5
      case yu5 =>
        intro w hSw
        (try dsimp only at hSw)
        go_simp
        first | done | with_reducible rfl
      try simp only [Act.put, List.getElem_toArray, List.getElem_cons_zero, List.getElem_cons_succ, List.setIfInBounds_toArray, List.set_cons_zero, List.set_cons_succ]
      refine wpAnyH_take (i := 6) (v := ?vu6) rfl (by kernel_rfl) (by kernel_rfl) (by kernel_rfl) (fun _ _ _ h => h) (Or.inl ⟨by rfl, ?yu6⟩) (by assumption) ?ru6
      case yu6 =>
        intro w hSw
        (try dsimp only at hSw)
        go_simp
        first | done | with_reducible rfl
      try simp only [Act.put, List.getElem_toArray, List.getElem_cons_zero, List.getElem_cons_succ, List.setIfInBounds_toArray, List.set_cons_zero, List.set_cons_succ]
      refine wpAnyH_take (i := 7) (v := ?vu7) rfl (by kernel_rfl) (by kernel_rfl) (by kernel_rfl) (fun _ _ _ h => h) (Or.inl ⟨by rfl, ?yu7⟩) (by assumption) ?ru7
      case yu7 =>
        intro w hSw
        (try dsimp only at hSw)
        go_simp
        first | done | with_reducible rfl
      try simp only [Act.put, List.getElem_toArray, List.getElem_cons_zero, List.getElem_cons_succ, List.setIfInBounds_toArray, List.set_cons_zero, List.set_cons_succ]
      refine wpAnyH_take (i := 8) (v := ?vu8) rfl (by kernel_rfl) (by kernel_rfl) (by kernel_rfl) (fun _ _ _ h => h) (Or.inl ⟨by rfl, ?yu8⟩) (by assumption) ?ru8
      case yu8 =>
        intro w hSw
        (try dsimp only at hSw)
        go_simp
        first | done | with_reducible rfl
      try simp only [Act.put, List.getElem_toArray, List.getElem_cons_zero, List.getElem_cons_succ, List.setIfInBounds_toArray, List.set_cons_zero, List.set_cons_succ]
      refine wpAnyH_ready (rs := [9]) (by kernel_rfl) (by simp) ?_
      refine AllReadyH.cons rfl (fun K hK => ?_) AllReadyH.nil
      refine step_wanted3 rfl (wp_putS (.tmp 46) (.tmp 48) (.tmp 51) rfl mb (k0 + k) _ rfl hm8 (by have := HK0.out; have := HKL.out; omega) x.p rfl HP.out w.heap.size (k * 5) rfl ?_)
      intro w4 hm4 hg4
      have hs4 : w4.cell? ⟨wr.heap.size, 1, none⟩ = some (.string x.p) ∧ w4.cell? ⟨hb, 2, none⟩ = some (.map (some mb)) := ⟨(World.cell?_of_block (a := ⟨wr.heap.size, 1, none⟩) (hg4.block _ HLT8.out (fun e => HG4.out (by simpa using e)))).trans P1.out, (World.cell?_of_block (a := ⟨hb, 2, none⟩) (hg4.block _ HHB8.out (fun e => HNE.out (by simpa using e)))).trans P4.out⟩
      refine hK.out _ _ hs4 (fun hHeld => ?_)
      clear hK K
      try simp only [Act.put, List.getElem_toArray, List.getElem_cons_zero, List.getElem_cons_succ]
      refine wpAnyH_done (by kernel_rfl) ?_ _
      have HM4 := Lib.hid hm4
      have HG5 := Lib.hid hg4
      clear hm4 hg4 hm8 hs4 hHeld p1 p4
      go_wp2_with fail
      go_roundw
      case rel => exact ⟨k + 1, by have := HKL.out; omega, by go_num, HN.out.next HX.out HB12.out HBO.out HBV.out HM4.out (by rw [HV.out]; exact ⟨HG5.out.os, HG5.out.tape, HG5.out.output, HG5.out.size, HG5.out.block⟩)⟩
      case measure => have := HKL.out; simp [intOf]; omega
    · obtain rfl : k = L.length := by omega
      go_wp2_with fail
      go_ret
      exact ⟨rfl, hN⟩

/-- The world behind the map that note makes. -/
def mapMade (wE : World) (hb : Nat) : World := (wE.setCell ⟨hb, 2, none⟩ (.map (some wE.heap.size))).alloc (.map #[] 0)
theorem mapMade_at {wE : World} {hb : Nat} {C : Array Value} {t : TypeId} (hc : wE.heap[hb]? = some (.cells C t (0, 0))) (hs : C.size = 3) : (mapMade wE hb).cell? ⟨hb, 2, none⟩ = some (.map (some wE.heap.size)) ∧ MapAt (mapMade wE hb) wE.heap.size 0 (.map []) ∧ (mapMade wE hb).heap.size = wE.heap.size + 1 ∧
    (∀ k, k < wE.heap.size → k ≠ hb → (mapMade wE hb).heap[k]? = wE.heap[k]?) ∧ (mapMade wE hb).heap[hb]? = some (.cells (C.setIfInBounds 2 (.map (some wE.heap.size))) t (0, 0)) := by
  have hl : hb < wE.heap.size := (Array.getElem?_eq_some_iff.1 hc).1
  have hz : (wE.setCell ⟨hb, 2, none⟩ (.map (some wE.heap.size))).heap.size = wE.heap.size := by simp [World.setCell]
  have h1 : (wE.setCell ⟨hb, 2, none⟩ (.map (some wE.heap.size))).heap[hb]? = some (.cells (C.setIfInBounds 2 (.map (some wE.heap.size))) t (0, 0)) := by
    rw [setCell_eq_setRow _ _ _ _ _ _ _ hc]
    exact setRow_heap _ _ _ _ _ _ hc
  have h2 : (mapMade wE hb).heap[hb]? = some (.cells (C.setIfInBounds 2 (.map (some wE.heap.size))) t (0, 0)) := (Below.heap_alloc _ _ _ (by rw [hz]; exact hl)).trans h1
  refine ⟨?_, ?_, by unfold mapMade; simp [World.setCell], fun k hk hn => ?_, h2⟩
  · rw [cell_of_row _ hb 2 _ _ _ h2]
    simp [hs]
  · have h3 : MapAt (mapMade wE hb) (wE.setCell ⟨hb, 2, none⟩ (.map (some wE.heap.size))).heap.size 0 (.map []) := World.ownsMap_made _ _ _ _
    rwa [hz] at h3
  · exact (Below.heap_alloc _ _ _ (by rw [hz]; exact hk)).trans (Below.heap_setCell _ _ _ _ hn)
set_option maxRecDepth 100000 in
set_option maxHeartbeats 16000000 in
theorem hnote_new (hb rev : Nat) (L : List DX) (B : Option Addr) (d : Nat) (wE : World) (C : Array Value) (hC : wE.heap[hb]? = some (.cells C 74 (0, 0))) (hCs : C.size = 3) (hCm : C[2]? = some (.map none)) (hdE : DelsAt wE B d L) (hnb : ∀ g o, B = some ⟨g, o, none⟩ → g ≠ hb) (hby : ∀ x ∈ L, BytesAt (mapMade wE hb) x.A x.b) (hs : SmallD L) :
    Calls Tryz.prog 29 #[.pointer (some ⟨hb, 0, none⟩), .int .i64 rev, .slice B L.length d] wE fun e w' => e = .returned (.slice (some ⟨wE.heap.size + 1, 0, none⟩) L.length L.length) ∧ NInv (mapMade wE hb) hb wE.heap.size (wE.heap.size + 1) 0 (.map []) L rev L.length w' := by
  have hmm := @run_makeMap Tryz.prog
  have hmn := hmap_none
  obtain ⟨h2, hmap, hsz, hoth, hrow⟩ := mapMade_at hC hCs
  have hcE := (cell_of_row wE hb 2 _ _ _ hC).trans hCm
  have hfE : wE.frozen? ⟨hb, 2, none⟩ = false := by simp [World.frozen?, hC]
  have hbE : hb < wE.heap.size := (Array.getElem?_eq_some_iff.1 hC).1
  have hd : DelsAt (mapMade wE hb) B d L := hdE.behind (fun g o e hg => hoth g hg (hnb g o e)) hby
  obtain ⟨w, hw⟩ : ∃ w, mapMade wE hb = w := ⟨_, rfl⟩
  obtain ⟨mb, hmb⟩ : ∃ mb, wE.heap.size = mb := ⟨_, rfl⟩
  have hk0 : 0 + L.length < maxLen := by have := hs.1; unfold maxLen; omega
  have hw2 : (wE.setCell ⟨hb, 2, none⟩ (.map (some wE.heap.size))).alloc (.map #[] 0) = w := hw
  rw [hw] at h2 hmap hsz hd ⊢
  rw [hmb] at h2 hmap hsz ⊢
  rw [← hsz]
  have HSZ := Lib.hid hsz
  have HMB0 := Lib.hid hmb
  have HW2 := Lib.hid hw2
  have HW := Lib.hid hw
  clear hsz hmb hw2 hw
  have hl : L.length ≤ 10000 := hs.1
  have HD := Lib.hid hd; clear hd
  have HM := Lib.hid hmap
  have HS0 := Lib.hid hs.2
  have HH2 := Lib.hid h2
  have hbl : hb < w.heap.size := World.block_lt_of_cell? w (a := ⟨hb, 2, none⟩) h2
  have hmbl : mb < w.heap.size := by
    obtain ⟨es, ck, he⟩ := hmap.block
    exact (Array.getElem?_eq_some_iff.1 he).1
  have hne : hb ≠ mb := fun e => by
    subst e
    obtain ⟨es, ck, he⟩ := hmap.block
    obtain ⟨C, t, fr, hc⟩ := block_cells h2
    rw [he] at hc; cases hc
  have HNE := Lib.hid hne
  have HBL := Lib.hid hbl
  have HMBL := Lib.hid hmbl
  have HK0 := Lib.hid hk0
  obtain ⟨i0, hi, hz0, hz1, hz2⟩ := info_parts record_info
  have hms := hmap_some mb
  clear hs hbl hmbl hne hk0
  go_enter Tryz.func29, Tryz.ntmps29
  go_wp2_with (refine wpList_make_full _ rfl _ _ 75 rfl w.heap.size 85 i0 (.agg #[.int .i64 0, .string ⟨#[]⟩, .slice none 0 0, .int .i64 0, .pointer none]) 5 Tryz.underlying75 hi hz0 hz1 .i64 .i64 _ _ L.length rfl rfl rfl rfl (by rw [hz2]; omega) (by unfold maxLen; omega) (by rw [HSZ.out, ← HMB0.out]; simp [World.setCell]) ?_; intro w1 hown hgrow)
  rw [HW2.out] at hown hgrow
  clear hcE hfE
  have h0 := NInv.zero (hb := hb) (rev := rev) HM.out hown hgrow
  clear hown hgrow h2 hi hz0 hz1 hz2
  clear hmm hmn hrow hoth hbE hC hdE hby
  rw [HMB0.out, ← HSZ.out]
  go_loopw [24] (fun i wr => ∃ (k : Nat), k ≤ L.length ∧ i = .int .i64 k ∧ NInv w hb mb w.heap.size 0 (DataW.map []) L rev k wr) (fun i _ => L.length - (intOf i).toNat)
  case atStart => exact ⟨0, Nat.zero_le _, rfl, h0⟩
  case round =>
    clear h0
    obtain ⟨k, hk, rfl, hN⟩ := hrel
    by_cases h1 : k < L.length
    · obtain ⟨x, hx⟩ : ∃ x, L[k]? = some x := ⟨_, List.getElem?_eq_getElem h1⟩
      obtain ⟨g, o, hB, hgl, ⟨C, tc, fr, hgc⟩, hcs⟩ := HD.out.cells hx
      have hgm : g ≠ mb := fun e => by
        subst e
        obtain ⟨es, ck, he⟩ := HM.out.block
        rw [he] at hgc; cases hgc
      subst hB
      obtain ⟨c1, c2, c3⟩ := hcs wr (hN.grown.block g hgl (fun e => hgm (by simpa using e)))
      have c4 : wr.cell? ⟨hb, 2, none⟩ = some (.map (some mb)) := (World.cell?_of_block (a := ⟨hb, 2, none⟩) (hN.grown.block hb HBL.out (fun e => HNE.out (by simpa using e)))).trans HH2.out
      have hmem := List.mem_of_getElem? hx
      have hsz := HS0.out x hmem
      have HL := Lib.hid hsz.2
      have HP := Lib.hid (show x.p.size ≤ maxLen by have := hsz.1; unfold maxLen; omega)
      have hlk := hN.map.look_eq x.p (by have := hsz.1; unfold maxLen; omega)
      have k1 : (k : Int) < (L.length : Int) := by omega
      have HX := Lib.hid hx
      have HKL := Lib.hid h1
      have hby : BytesAt wr x.A x.b := (HD.out.bytes x hmem).grownMap hN.grown HM.out.block
      have HBY := Lib.hid hby
      obtain ⟨bv, hbv⟩ := ptrOf_ptr (atS (laidS (DataW.map []) w.heap.size (L.map fun x => x.p.data.toList) k) x.p.data.toList)
      rw [hbv] at hlk
      have HBV := Lib.hid hbv.symm
      have HN := Lib.hid hN
      clear hx hgl hgc hcs hgm hmem hsz hby hbv hN
      go_wp2_with fail
      obtain ⟨W1, hW1⟩ : ∃ W, wr.alloc (.cells #[.int .i64 x.k, .string x.p, .slice x.A x.b.length x.c] 62) = W := ⟨_, rfl⟩
      have g1 := heap_alloc_new wr (.cells #[.int .i64 x.k, .string x.p, .slice x.A x.b.length x.c] 62)
      have hb1 := below_box wr (.cells #[.int .i64 x.k, .string x.p, .slice x.A x.b.length x.c] 62)
      have hlt : wr.heap.size < W1.heap.size := by rw [← hW1]; simp
      rw [hW1] at g1 hb1 ⊢
      have hbw : hb < wr.heap.size := Nat.lt_of_lt_of_le HBL.out HN.out.grown.size
      have hmw : mb < wr.heap.size := Nat.lt_of_lt_of_le HMBL.out HN.out.grown.size
      have hgw : w.heap.size < wr.heap.size := by
        obtain ⟨cur, hc, _⟩ := HN.out.blk
        exact (Array.getElem?_eq_some_iff.1 hc).1
      have hS : ∀ W : World, W.heap[wr.heap.size]? = W1.heap[wr.heap.size]? → W.heap[hb]? = wr.heap[hb]? → W.heap[mb]? = wr.heap[mb]? → (W.cell? ⟨wr.heap.size, 0, none⟩ = some (.int .i64 x.k) ∧ W.cell? ⟨wr.heap.size, 1, none⟩ = some (.string x.p) ∧ W.cell? ⟨wr.heap.size, 2, none⟩ = some (.slice x.A x.b.length x.c) ∧ W.cell? ⟨hb, 2, none⟩ = some (.map (some mb)) ∧ (Instr.lookup 72 (.map (some mb)) (.string x.p) false).run Tryz.prog W = .ok (.pointer bv) W) := fun W e1 e2 e3 =>
        ⟨cell_of_row W wr.heap.size 0 _ _ _ (e1.trans g1), cell_of_row W wr.heap.size 1 _ _ _ (e1.trans g1), cell_of_row W wr.heap.size 2 _ _ _ (e1.trans g1), (World.cell?_of_block (a := ⟨hb, 2, none⟩) e2).trans c4, by
          have h := (HN.out.map.keep e3).look_eq x.p HP.out
          rw [h, HBV.out]⟩
      have hS0 := hS W1.drew rfl (hb1.block _ hbw) (hb1.block _ hmw)
      have HS := Lib.hid hS
      have HB1 := Lib.hid hb1
      have HLT := Lib.hid hlt
      have HHB := Lib.hid hbw
      have HMB := Lib.hid hmw
      have HG1 := Lib.hid (show wr.heap.size ≠ w.heap.size by omega)
      have HG2 := Lib.hid (show hb ≠ w.heap.size by have := HBL.out; omega)
      have HG3 := Lib.hid (show mb ≠ w.heap.size by have := HMBL.out; omega)
      have HG4 := Lib.hid (show wr.heap.size ≠ mb by omega)
      have HGW := Lib.hid hgw
      clear g1 hb1 hlt hW1 hbw hmw hS hgw c1 c2 c3 c4 hlk
      refine wp_region_held_drew (S := (fun w' => w'.cell? ⟨wr.heap.size, 0, none⟩ = some (.int .i64 x.k) ∧ w'.cell? ⟨wr.heap.size, 1, none⟩ = some (.string x.p) ∧ w'.cell? ⟨wr.heap.size, 2, none⟩ = some (.slice x.A x.b.length x.c) ∧ w'.cell? ⟨hb, 2, none⟩ = some (.map (some mb)) ∧ (Instr.lookup 72 (.map (some mb)) (.string x.p) false).run Tryz.prog w' = .ok (.pointer bv) w')) (by kernel_rfl) ⟨hS0.1, hS0.2⟩ (fun hHeld => ?_)
      refine wpAnyH_take (i := 0) (v := ?vs0) rfl (by kernel_rfl) (by kernel_rfl) (by kernel_rfl) (fun _ _ _ h => h) (Or.inl ⟨by rfl, ?ys0⟩) (by assumption) ?rs0
      case ys0 =>
        intro w hSw
        (try dsimp only at hSw)
        go_simp
        first | done | with_reducible rfl
      try simp only [Act.put, List.getElem_toArray, List.getElem_cons_zero, List.setIfInBounds_toArray, List.set_cons_zero, List.set_cons_succ]
      refine wpAnyH_take (i := 1) (v := ?vs1) rfl (by kernel_rfl) (by kernel_rfl) (by kernel_rfl) (fun _ _ _ h => h) (Or.inl ⟨by rfl, ?ys1⟩) (by assumption) ?rs1
      case ys1 =>
        intro w hSw
        (try dsimp only at hSw)
        go_simp
        first | done | with_reducible rfl
      try simp only [Act.put, List.getElem_toArray, List.getElem_cons_zero, List.getElem_cons_succ, List.setIfInBounds_toArray, List.set_cons_zero, List.set_cons_succ]
      refine wpAnyH_take (i := 2) (v := ?vs2) rfl (by kernel_rfl) (by kernel_rfl) (by kernel_rfl) (fun _ _ _ h => h) (Or.inl ⟨by rfl, ?ys2⟩) (by assumption) ?rs2
      case ys2 =>
        intro w hSw
        (try dsimp only at hSw)
        go_simp
        first | done | with_reducible rfl
      try simp only [Act.put, List.getElem_toArray, List.getElem_cons_zero, List.getElem_cons_succ, List.setIfInBounds_toArray, List.set_cons_zero, List.set_cons_succ]
      refine wpAnyH_take (i := 4) (v := ?vs4) rfl (by kernel_rfl) (by kernel_rfl) (by kernel_rfl) (fun _ _ _ h => h) (Or.inl ⟨by rfl, ?ys4⟩) (by assumption) ?rs4
      case ys4 =>
        intro w hSw
        (try dsimp only at hSw)
        go_simp
        first | done | with_reducible rfl
      try simp only [Act.put, List.getElem_toArray, List.getElem_cons_zero, List.getElem_cons_succ, List.setIfInBounds_toArray, List.set_cons_zero, List.set_cons_succ]
      refine wpAnyH_take (i := 5) (v := ?vs5) rfl (by kernel_rfl) (by kernel_rfl) (by kernel_rfl) (fun _ _ _ h => h) (Or.inl ⟨by rfl, ?ys5⟩) (by assumption) ?rs5
      case ys5 =>
        intro w hSw
        (try dsimp only at hSw)
        go_simp
        first | done | with_reducible rfl
      try simp only [Act.put, List.getElem_toArray, List.getElem_cons_zero, List.getElem_cons_succ, List.setIfInBounds_toArray, List.set_cons_zero, List.set_cons_succ]
      refine wpAnyH_take (i := 6) (v := ?vs6) rfl (by kernel_rfl) (by kernel_rfl) (by kernel_rfl) (fun _ _ _ h => h) (Or.inl ⟨by rfl, ?ys6⟩) (by assumption) ?rs6
      case ys6 =>
        intro w hSw
        (try dsimp only at hSw)
        go_simp
        first | done | with_reducible rfl
      try simp only [Act.put, List.getElem_toArray, List.getElem_cons_zero, List.getElem_cons_succ, List.setIfInBounds_toArray, List.set_cons_zero, List.set_cons_succ]
      refine wpAnyH_take (i := 7) (v := ?vs7) rfl (by kernel_rfl) (by kernel_rfl) (by kernel_rfl) (fun _ _ _ h => h) (Or.inl ⟨by rfl, ?ys7⟩) (by assumption) ?rs7
      case ys7 =>
        intro w hSw
        (try dsimp only at hSw)
        go_simp
        first | done | with_reducible rfl
      try simp only [Act.put, List.getElem_toArray, List.getElem_cons_zero, List.getElem_cons_succ, List.setIfInBounds_toArray, List.set_cons_zero, List.set_cons_succ]
      refine wpAnyH_take (i := 8) (v := ?vs8) rfl (by kernel_rfl) (by kernel_rfl) (by kernel_rfl) (fun _ _ _ h => h) (Or.inl ⟨by rfl, ?ys8⟩) (by assumption) ?rs8
      case ys8 =>
        intro w hSw
        (try dsimp only at hSw)
        go_simp
        first | done | with_reducible rfl
      try simp only [Act.put, List.getElem_toArray, List.getElem_cons_zero, List.getElem_cons_succ, List.setIfInBounds_toArray, List.set_cons_zero, List.set_cons_succ]
      refine wpAnyH_take (i := 9) (v := ?vs9) rfl (by kernel_rfl) (by kernel_rfl) (by kernel_rfl) (fun _ _ _ h => h) (Or.inl ⟨by rfl, ?ys9⟩) (by assumption) ?rs9
      case ys9 =>
        intro w hSw
        (try dsimp only at hSw)
        go_simp
        first | done | with_reducible rfl
      try simp only [Act.put, List.getElem_toArray, List.getElem_cons_zero, List.getElem_cons_succ, List.setIfInBounds_toArray, List.set_cons_zero, List.set_cons_succ]
      refine wpAnyH_take (i := 10) (v := ?vs10) rfl (by kernel_rfl) (by kernel_rfl) (by kernel_rfl) (fun _ _ _ h => h) (Or.inl ⟨by rfl, ?ys10⟩) (by assumption) ?rs10
      case ys10 =>
        intro w hSw
        (try dsimp only at hSw)
        go_simp
        first | done | with_reducible rfl
      try simp only [Act.put, List.getElem_toArray, List.getElem_cons_zero, List.getElem_cons_succ, List.setIfInBounds_toArray, List.set_cons_zero, List.set_cons_succ]
      refine wpAnyH_take (i := 11) (v := ?vs11) rfl (by kernel_rfl) (by kernel_rfl) (by kernel_rfl) (fun _ _ _ h => h) (Or.inl ⟨by rfl, ?ys11⟩) (by assumption) ?rs11
      case ys11 =>
        intro w hSw
        (try dsimp only at hSw)
        go_simp
        first | done | with_reducible rfl
      try simp only [Act.put, List.getElem_toArray, List.getElem_cons_zero, List.getElem_cons_succ, List.setIfInBounds_toArray, List.set_cons_zero, List.set_cons_succ]
      refine wpAnyH_ready (rs := [3]) (by kernel_rfl) (by simp) ?_
      refine AllReadyH.cons rfl (fun K hK => ?_) AllReadyH.nil
      go_simp
      refine (hown_any x W1.drew (HBY.out.below HB1.out.drew) HL.out).mono ?_
      rintro e w2 ⟨A', c', rfl, hbo, hb2⟩
      have hb12 : Below wr.heap.size wr w2 := HB1.out.drew.trans (hb2.mono HB1.out.drew.size)
      have he2 : w2.heap[wr.heap.size]? = W1.heap[wr.heap.size]? := hb2.block _ HLT.out
      have hs7 := HS.out w2 he2 (hb12.block _ HHB.out) (hb12.block _ HMB.out)
      have HE2 := Lib.hid he2
      have HLTW2 := Lib.hid (show wr.heap.size < w2.heap.size from Nat.lt_of_lt_of_le HLT.out hb2.size)
      have HB12 := Lib.hid hb12
      have HBO := Lib.hid hbo
      clear hb2 hb12 hbo he2
      go_wp2_with fail
      refine hK.out _ _ hs7 (fun hHeld => ?_)
      clear hK K
      try simp only [Act.put, List.getElem_toArray, List.getElem_cons_zero, List.getElem_cons_succ, List.setIfInBounds_toArray, List.set_cons_zero, List.set_cons_succ]
      refine wpAnyH_take (i := 12) (v := ?vs12) rfl (by kernel_rfl) (by kernel_rfl) (by kernel_rfl) (fun _ _ _ h => h) (Or.inl ⟨by rfl, ?ys12⟩) (by assumption) ?rs12
      case ys12 =>
        intro w hSw
        (try dsimp only at hSw)
        go_simp
        first | done | with_reducible rfl
      try simp only [Act.put, List.getElem_toArray, List.getElem_cons_zero, List.getElem_cons_succ, List.setIfInBounds_toArray, List.set_cons_zero, List.set_cons_succ]
      refine wpAnyH_take (i := 13) (v := ?vs13) rfl (by kernel_rfl) (by kernel_rfl) (by kernel_rfl) (fun _ _ _ h => h) (Or.inl ⟨by rfl, ?ys13⟩) (by assumption) ?rs13
      case ys13 =>
        intro w hSw
        (try dsimp only at hSw)
        go_simp
        first | done | with_reducible rfl
      try simp only [Act.put, List.getElem_toArray, List.getElem_cons_zero, List.getElem_cons_succ, List.setIfInBounds_toArray, List.set_cons_zero, List.set_cons_succ]
      refine wpAnyH_ready (rs := [14]) (by kernel_rfl) (by simp) ?_
      refine AllReadyH.cons rfl (fun K hK => ?_) AllReadyH.nil
      have hth := HN.out.there HKL.out HB12.out
      refine step_wanted3 rfl (wp_store_mid 85 (.tmp 42) (.tmp 41) rfl w.heap.size (k * 5) #[.int .i64 x.k, .string x.p, .slice A' x.b.length c', .int .i64 rev, .pointer bv] rfl rfl hth record_size (by simp [Value.oneCell']) ?_)
      have hq : ∀ q, q ≠ w.heap.size → (w2.setCells w.heap.size (k * 5) [.int .i64 x.k, .string x.p, .slice A' x.b.length c', .int .i64 rev, .pointer bv]).heap[q]? = w2.heap[q]? := fun q h => heap_setCells_other w.heap.size q h _ _ _
      have hs8 := HS.out (w2.setCells w.heap.size (k * 5) [.int .i64 x.k, .string x.p, .slice A' x.b.length c', .int .i64 rev, .pointer bv]) ((hq _ HG1.out).trans HE2.out) ((hq _ HG2.out).trans (HB12.out.block _ HHB.out)) ((hq _ HG3.out).trans (HB12.out.block _ HMB.out))
      have HQM := Lib.hid ((hq _ HG3.out).trans (HB12.out.block _ HMB.out))
      have hsz8 := setCells_size w.heap.size [.int .i64 x.k, .string x.p, .slice A' x.b.length c', .int .i64 rev, .pointer bv] (k * 5) w2
      clear hth hq
      refine hK.out _ _ hs8 (fun hHeld => ?_)
      clear hK K
      try simp only [Act.put, List.getElem_toArray, List.getElem_cons_zero, List.getElem_cons_succ]
      refine wpAnyH_done (by kernel_rfl) ?_ _
      go_wp2_with fail
      obtain ⟨_, p1, _, p4, _⟩ := hs8
      have P1 := Lib.hid p1
      have P4 := Lib.hid p4
      clear hs7 hHeld
      obtain ⟨V, hV⟩ : ∃ V, w2.setCells w.heap.size (k * 5) [.int .i64 x.k, .string x.p, .slice A' x.b.length c', .int .i64 rev, .pointer bv] = V := ⟨_, rfl⟩
      rw [hV] at P1 P4 HQM hsz8 p1 p4 ⊢
      have HV := Lib.hid hV
      have hm8 : MapAt V.drew mb (0 + k) (laidS (DataW.map []) w.heap.size (L.map fun x => x.p.data.toList) k) := HN.out.map.keep HQM.out
      have HLT8 := Lib.hid (show wr.heap.size < V.heap.size by have := HB12.out.size; have := HLTW2.out; omega)
      have HHB8 := Lib.hid (show hb < V.heap.size by have := HB12.out.size; have := HHB.out; omega)
      clear hV
      refine wp_region_held_drew (S := (fun w' => w'.cell? ⟨wr.heap.size, 1, none⟩ = some (.string x.p) ∧ w'.cell? ⟨hb, 2, none⟩ = some (.map (some mb)))) (by kernel_rfl) ⟨P1.out, P4.out⟩ (fun hHeld => ?_)
      refine wpAnyH_take (i := 0) (v := ?vu0) rfl (by kernel_rfl) (by kernel_rfl) (by kernel_rfl) (fun _ _ _ h => h) (Or.inl ⟨by rfl, ?yu0⟩) (by assumption) ?ru0
      case yu0 =>
        intro w hSw
        (try dsimp only at hSw)
        go_simp
        first | done | with_reducible rfl
      try simp only [Act.put, List.getElem_toArray, List.getElem_cons_zero, List.setIfInBounds_toArray, List.set_cons_zero, List.set_cons_succ]
      refine wpAnyH_take (i := 1) (v := ?vu1) rfl (by kernel_rfl) (by kernel_rfl) (by kernel_rfl) (fun _ _ _ h => h) (Or.inl ⟨by rfl, ?yu1⟩) (by assumption) ?ru1
      case yu1 =>
        intro w hSw
        (try dsimp only at hSw)
        go_simp
        first | done | with_reducible rfl
      try simp only [Act.put, List.getElem_toArray, List.getElem_cons_zero, List.getElem_cons_succ, List.setIfInBounds_toArray, List.set_cons_zero, List.set_cons_succ]
      refine wpAnyH_take (i := 2) (v := ?vu2) rfl (by kernel_rfl) (by kernel_rfl) (by kernel_rfl) (fun _ _ _ h => h) (Or.inl ⟨by rfl, ?yu2⟩) (by assumption) ?ru2
      case yu2 =>
        intro w hSw
        (try dsimp only at hSw)
        go_simp
        first | done | with_reducible rfl
      try simp only [Act.put, List.getElem_toArray, List.getElem_cons_zero, List.getElem_cons_succ, List.setIfInBounds_toArray, List.set_cons_zero, List.set_cons_succ]
      refine wpAnyH_take (i := 3) (v := ?vu3) rfl (by kernel_rfl) (by kernel_rfl) (by kernel_rfl) (fun _ _ _ h => h) (Or.inl ⟨by rfl, ?yu3⟩) (by assumption) ?ru3
      case yu3 =>
        intro w hSw
        (try dsimp only at hSw)
        go_simp
        first | done | with_reducible rfl
      try simp only [Act.put, List.getElem_toArray, List.getElem_cons_zero, List.getElem_cons_succ, List.setIfInBounds_toArray, List.set_cons_zero, List.set_cons_succ]
      refine wpAnyH_take (i := 4) (v := ?vu4) rfl (by kernel_rfl) (by kernel_rfl) (by kernel_rfl) (fun _ _ _ h => h) (Or.inl ⟨by rfl, ?yu4⟩) (by assumption) ?ru4
      case yu4 =>
        intro w hSw
        (try dsimp only at hSw)
        go_simp
        first | done | with_reducible rfl
      try simp only [Act.put, List.getElem_toArray, List.getElem_cons_zero, List.getElem_cons_succ, List.setIfInBounds_toArray, List.set_cons_zero, List.set_cons_succ]
      refine wpAnyH_take (i := 5) (v := ?vu5) rfl (by kernel_rfl) (by kernel_rfl) (by kernel_rfl) (fun _ _ _ h => h) (Or.inl ⟨by rfl, ?yu5⟩) (by assumption) ?ru5
      case yu5 =>
        intro w hSw
        (try dsimp only at hSw)
        go_simp
        first | done | with_reducible rfl
      try simp only [Act.put, List.getElem_toArray, List.getElem_cons_zero, List.getElem_cons_succ, List.setIfInBounds_toArray, List.set_cons_zero, List.set_cons_succ]
      refine wpAnyH_take (i := 6) (v := ?vu6) rfl (by kernel_rfl) (by kernel_rfl) (by kernel_rfl) (fun _ _ _ h => h) (Or.inl ⟨by rfl, ?yu6⟩) (by assumption) ?ru6
      case yu6 =>
        intro w hSw
        (try dsimp only at hSw)
        go_simp
        first | done | with_reducible rfl
      try simp only [Act.put, List.getElem_toArray, List.getElem_cons_zero, List.getElem_cons_succ, List.setIfInBounds_toArray, List.set_cons_zero, List.set_cons_succ]
      refine wpAnyH_take (i := 7) (v := ?vu7) rfl (by kernel_rfl) (by kernel_rfl) (by kernel_rfl) (fun _ _ _ h => h) (Or.inl ⟨by rfl, ?yu7⟩) (by assumption) ?ru7
      case yu7 =>
        intro w hSw
        (try dsimp only at hSw)
        go_simp
        first | done | with_reducible rfl
      try simp only [Act.put, List.getElem_toArray, List.getElem_cons_zero, List.getElem_cons_succ, List.setIfInBounds_toArray, List.set_cons_zero, List.set_cons_succ]
      refine wpAnyH_take (i := 8) (v := ?vu8) rfl (by kernel_rfl) (by kernel_rfl) (by kernel_rfl) (fun _ _ _ h => h) (Or.inl ⟨by rfl, ?yu8⟩) (by assumption) ?ru8
      case yu8 =>
        intro w hSw
        (try dsimp only at hSw)
        go_simp
        first | done | with_reducible rfl
      try simp only [Act.put, List.getElem_toArray, List.getElem_cons_zero, List.getElem_cons_succ, List.setIfInBounds_toArray, List.set_cons_zero, List.set_cons_succ]
      refine wpAnyH_ready (rs := [9]) (by kernel_rfl) (by simp) ?_
      refine AllReadyH.cons rfl (fun K hK => ?_) AllReadyH.nil
      refine step_wanted3 rfl (wp_putS (.tmp 46) (.tmp 48) (.tmp 51) rfl mb (0 + k) _ rfl hm8 (by have := HK0.out; have := HKL.out; omega) x.p rfl HP.out w.heap.size (k * 5) rfl ?_)
      intro w4 hm4 hg4
      have hs4 : w4.cell? ⟨wr.heap.size, 1, none⟩ = some (.string x.p) ∧ w4.cell? ⟨hb, 2, none⟩ = some (.map (some mb)) := ⟨(World.cell?_of_block (a := ⟨wr.heap.size, 1, none⟩) (hg4.block _ HLT8.out (fun e => HG4.out (by simpa using e)))).trans P1.out, (World.cell?_of_block (a := ⟨hb, 2, none⟩) (hg4.block _ HHB8.out (fun e => HNE.out (by simpa using e)))).trans P4.out⟩
      refine hK.out _ _ hs4 (fun hHeld => ?_)
      clear hK K
      try simp only [Act.put, List.getElem_toArray, List.getElem_cons_zero, List.getElem_cons_succ]
      refine wpAnyH_done (by kernel_rfl) ?_ _
      have HM4 := Lib.hid hm4
      have HG5 := Lib.hid hg4
      clear hm4 hg4 hm8 hs4 hHeld p1 p4
      go_wp2_with fail
      go_roundw
      case rel => exact ⟨k + 1, by have := HKL.out; omega, by go_num, HN.out.next HX.out HB12.out HBO.out HBV.out HM4.out (by rw [HV.out]; exact ⟨HG5.out.os, HG5.out.tape, HG5.out.output, HG5.out.size, HG5.out.block⟩)⟩
      case measure => have := HKL.out; simp [intOf]; omega
    · obtain rfl : k = L.length := by omega
      go_wp2_with fail
      go_ret
      exact ⟨rfl, hN⟩
end Go.Proofs.YtffhfllikamccaaGreatDoor
