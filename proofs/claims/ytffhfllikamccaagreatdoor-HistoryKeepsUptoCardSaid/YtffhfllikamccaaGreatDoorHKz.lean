/-
  A commit once more: its records' bodies lie in new blocks. (gen_hfar.py, out of XHBare, XHNote) · A commit once more: its records' bodies lie in new blocks. (gen_hfar.py, out of XGCommit) · append of bytes onto nothing: new ones, in a block of their own. (as XQuCopy)
-/
import Derived.Test.YtffhfllikamccaaGreatDoorHN
import Derived.Test.YtffhfllikamccaaGreatDoorGCommit
import Derived.Laws.AppendOwn
import Derived.Laws.OwnMore
import Derived.OwnWalkIn
namespace Go.Proofs.YtffhfllikamccaaGreatDoor
open Go Go.RowKit Go.Shelf Go.Proofs Go.ChangeMaps Go.Maps Go.WideMaps
attribute [local go_sem] Oper.semAt_some

def FarH (base : Nat) (A : Option Addr) : Prop := ∀ a, A = some a → base ≤ a.block
theorem FarH.le {b b' : Nat} {A : Option Addr} (h : FarH b' A) (hb : b ≤ b') : FarH b A := fun a e => Nat.le_trans hb (h a e)
theorem bclone_farH (A : Option Addr) (c : Nat) (b : Bs) (w : World) (h : BytesAt w A b) (hl : b.length ≤ 1000000) :
    Calls Tryz.prog 37 #[.slice A b.length c] w fun e w' => ∃ (A' : Option Addr) (c' : Nat), e = .returned (.slice A' b.length c') ∧ BytesOwn w' A' b ∧ Below w.heap.size w w' ∧ FarH w.heap.size A' := by
  cases A with
  | none =>
    have hn : b = [] := by
      cases b with
      | nil => rfl
      | cons x r => obtain ⟨g, o, e, _⟩ := h (by simp); cases e
    subst hn
    refine (Tryz.bytes_Clone_nil _ _ w).mono ?_
    rintro e w' ⟨rfl, rfl⟩
    exact ⟨none, 0, rfl, BytesOwn.nil _ _, Below.refl _ _, fun a e => by cases e⟩
  | some a =>
    refine (Tryz.bytes_Clone_at a b.length c (numsB b) w (numsB_length b) (by omega) (fun i hi => ?_)).mono ?_
    · obtain ⟨g, o, e, hc⟩ := h (by omega)
      cases e
      rw [Go.WideShapes.add_plain]
      exact hc i hi
    · rintro e w' ⟨v', rfl, hown, _, hb⟩
      rcases hown.2 with ⟨rfl, hn⟩ | ⟨g, cap, cur, rfl, hgb, hh, _, _, _, _⟩
      · have : b = [] := List.eq_nil_of_length_eq_zero hn
        subst this
        exact ⟨none, 0, rfl, BytesOwn.nil _ _, hb, fun a e => by cases e⟩
      · refine ⟨some ⟨g, 0, none⟩, cap, rfl, fun _ => ⟨g, cur, rfl, hh, fun i hi => ?_⟩, hb, fun a e => by cases e; exact hgb⟩
        have := hown.cells (g := g) rfl i (.int .u8 ((numsB b).getD i 0)) (by
          rw [List.getElem?_map]
          have hl' : i < (numsB b).length := by rw [numsB_length]; exact hi
          simp [List.getD, List.getElem?_eq_getElem hl'])
        rw [Go.WideShapes.add_plain, Nat.zero_add] at this
        exact this
/-- The first i records at block G have bodies from block w's size on. -/
def FarN (w wr : World) (G i : Nat) (L : List DX) : Prop := ∀ j x, j < i → L[j]? = some x → ∃ (A' : Option Addr) (c' : Nat), wr.cell? ⟨G, j * 5 + 2, none⟩ = some (.slice A' x.b.length c') ∧ FarH w.heap.size A'
theorem FarN.next {w : World} {hb mb G k0 : Nat} {D : DataW Unit} {L : List DX} {rev : Int} {i : Nat} {wr w2 V : World} {x : DX} {A' : Option Addr} {c' : Nat} {bv : Value} (h : FarN w wr G i L) (hN : NInv w hb mb G k0 D L rev i wr) (hx : L[i]? = some x) (hbl : Below wr.heap.size wr w2) (hfa : FarH w.heap.size A')
    (hg : (w2.setCells G (i * 5) [.int .i64 x.k, .string x.p, .slice A' x.b.length c', .int .i64 rev, bv]).grownBy V (some mb)) : FarN w V G (i + 1) L := by
  have hi : i < L.length := (List.getElem?_eq_some_iff.1 hx).1
  have ht := hN.there hi hbl
  obtain ⟨cur, hc, hs⟩ := hN.blk
  have hgl : G < wr.heap.size := (Array.getElem?_eq_some_iff.1 hc).1
  have hc2 : w2.heap[G]? = some (.cells cur 85 (0, 0)) := (hbl.block G hgl).trans hc
  have hg2 : G < w2.heap.size := (Array.getElem?_eq_some_iff.1 hc2).1
  have hne : G ≠ mb := by have := hN.low; omega
  have hV : V.heap[G]? = (w2.setCells G (i * 5) [.int .i64 x.k, .string x.p, .slice A' x.b.length c', .int .i64 rev, bv]).heap[G]? := hg.block G (by rw [setCells_size]; exact hg2) (fun e => hne (by simpa using e))
  intro j y hj hy
  by_cases e : j = i
  · subst e
    rw [hx] at hy
    cases hy
    have h1 := RecAt.of_range (World.rangeAt_setCells_same w2 G (j * 5) [.int .i64 x.k, .string x.p, .slice A' x.b.length c', .int .i64 rev, bv] ht)
    exact ⟨A', c', (World.cell?_of_block (a := ⟨G, j * 5 + 2, none⟩) hV).trans h1.body, hfa⟩
  · obtain ⟨A2, c2, h1, h2⟩ := h j y (by omega) hy
    refine ⟨A2, c2, ?_, h2⟩
    rw [World.cell?_of_block (a := ⟨G, j * 5 + 2, none⟩) hV, World.cell?_setCells_out G _ _ w2 ⟨G, j * 5 + 2, none⟩ (fun _ _ => .inl (by show j * 5 + 2 < i * 5; omega))]
    exact (World.cell?_of_block (a := ⟨G, j * 5 + 2, none⟩) (hbl.block G hgl)).trans h1
set_option maxRecDepth 100000 in
set_option maxHeartbeats 4000000 in
theorem hownF_any (d : DX) (w : World) (h : BytesAt w d.A d.b) (hl : d.b.length ≤ 1000000) :
    Calls Tryz.prog 41 #[.agg #[.int .i64 d.k, .string d.p, .slice d.A d.b.length d.c]] w fun e w' =>
      ∃ (A' : Option Addr) (c' : Nat), e = .returned (.agg #[.int .i64 d.k, .string d.p, .slice A' d.b.length c']) ∧ BytesOwn w' A' d.b ∧ Below w.heap.size w w' ∧ FarH w.heap.size A' := by
  go_enter Tryz.func41, Tryz.ntmps41
  go_wp2_with fail
  obtain ⟨W1, hW1⟩ : ∃ W, w.alloc (.cells #[.int .i64 d.k, .string d.p, .slice d.A d.b.length d.c] 62) = W := ⟨_, rfl⟩
  have g1 := heap_alloc_new w (.cells #[.int .i64 d.k, .string d.p, .slice d.A d.b.length d.c] 62)
  have s1 : W1.heap.size = w.heap.size + 1 := by rw [← hW1]; simp
  have b1 := below_box w (.cells #[.int .i64 d.k, .string d.p, .slice d.A d.b.length d.c] 62)
  rw [hW1] at g1 b1 ⊢
  obtain ⟨W2, hW2⟩ : ∃ W, W1.alloc (.cells #[.int .i64 0, .string ⟨#[]⟩, .slice none 0 0] 62) = W := ⟨_, rfl⟩
  have g2 := heap_alloc_new W1 (.cells #[.int .i64 0, .string ⟨#[]⟩, .slice none 0 0] 62)
  have b2 := below_box W1 (.cells #[.int .i64 0, .string ⟨#[]⟩, .slice none 0 0] 62)
  have s2 : W2.heap.size = w.heap.size + 2 := by rw [← hW2]; simp [s1]
  rw [hW2] at g2 b2 ⊢
  rw [s1] at g2
  have g1 : W2.heap[w.heap.size]? = _ := (b2.block w.heap.size (by omega)).trans g1
  have b12 := b1.trans (b2.mono b1.size)
  refine (bclone_farH d.A d.c d.b W2 (h.below b12) hl).mono ?_
  rintro e w3 ⟨A', c', rfl, hbo, hb3, hfa⟩
  have HFA := Lib.hid (hfa.le b12.size)
  clear hfa
  have g1 : w3.heap[w.heap.size]? = _ := (hb3.block w.heap.size (by omega)).trans g1
  have g2 : w3.heap[w.heap.size + 1]? = _ := (hb3.block (w.heap.size + 1) (by omega)).trans g2
  have hb := b12.trans (hb3.mono b12.size)
  clear b1 b2 b12 hb3 s1 s2 hW1 hW2 h
  have c0 := cell_of_row w3 w.heap.size 0 _ _ _ g1
  have c1 := cell_of_row w3 w.heap.size 1 _ _ _ g1
  have c2 := cell_of_row w3 w.heap.size 2 _ _ _ g1
  have f2 : w3.frozen? ⟨w.heap.size, 2, none⟩ = false := by simp [World.frozen?, g1]
  have d0 := cell_of_row w3 (w.heap.size + 1) 0 _ _ _ g2
  have d1 := cell_of_row w3 (w.heap.size + 1) 1 _ _ _ g2
  have d2 := cell_of_row w3 (w.heap.size + 1) 2 _ _ _ g2
  have e0 : w3.frozen? ⟨w.heap.size + 1, 0, none⟩ = false := by simp [World.frozen?, g2]
  have e1 : w3.frozen? ⟨w.heap.size + 1, 1, none⟩ = false := by simp [World.frozen?, g2]
  have e2 : w3.frozen? ⟨w.heap.size + 1, 2, none⟩ = false := by simp [World.frozen?, g2]
  simp at c0 c1 c2 d0 d1 d2
  have G1 := Lib.hid g1
  have G2 := Lib.hid g2
  clear g1 g2
  go_wp2_with fail
  have hk : ∀ (W : World) (g o : Nat) (cur : Array Value) (u : Value), W.heap[g]? = some (Obj.cells cur 62 (0, 0)) → BytesOwn W A' d.b → BytesOwn (W.setCell ⟨g, o, none⟩ u) A' d.b := fun W g o cur u hg hb' => hb'.keep fun q cur' hq => Below.heap_setCell _ _ _ _ (fun e => by
      have e : q = g := e
      subst e
      rw [hg] at hq; cases hq)
  have q1 : (w3.setCell ⟨w.heap.size, 2, none⟩ (.slice A' d.b.length c')).heap[w.heap.size + 1]? = _ := (Below.heap_setCell _ _ _ _ (Nat.succ_ne_self _)).trans G2.out
  have b1 := hk w3 w.heap.size 2 _ (.slice A' d.b.length c') G1.out hbo
  rw [setCell_eq_setRow _ _ _ _ _ _ _ q1]
  have q2 := setRow_heap _ _ _ (#[Value.int .i64 0, .string ⟨#[]⟩, .slice none 0 0].setIfInBounds 0 (.int .i64 d.k)) _ _ q1
  rw [setCell_eq_setRow _ _ _ _ _ _ _ q2]
  have q3 := setRow_heap _ _ _ ((#[Value.int .i64 0, .string ⟨#[]⟩, .slice none 0 0].setIfInBounds 0 (.int .i64 d.k)).setIfInBounds 1 (.string d.p)) _ _ q2
  rw [setCell_eq_setRow _ _ _ _ _ _ _ q3]
  have q4 := setRow_heap _ _ _ (((#[Value.int .i64 0, .string ⟨#[]⟩, .slice none 0 0].setIfInBounds 0 (.int .i64 d.k)).setIfInBounds 1 (.string d.p)).setIfInBounds 2 (.slice A' d.b.length c')) _ _ q3
  have hbb := hb.setCell (p := ⟨w.heap.size, 2, none⟩) (Nat.le_refl _) (.slice A' d.b.length c')
  simp only [setRow_setRow] at q4 ⊢
  have hbz : Below w.heap.size w ((w3.setCell ⟨w.heap.size, 2, none⟩ (.slice A' d.b.length c')).setRow (w.heap.size + 1) (((#[Value.int .i64 0, .string ⟨#[]⟩, .slice none 0 0].setIfInBounds 0 (.int .i64 d.k)).setIfInBounds 1 (.string d.p)).setIfInBounds 2 (.slice A' d.b.length c'))) :=
    hbb.trans ⟨rfl, rfl, rfl, by simp, fun k hk => setRow_other _ _ _ _ (by omega)⟩
  have b2 : BytesOwn ((w3.setCell ⟨w.heap.size, 2, none⟩ (.slice A' d.b.length c')).setRow (w.heap.size + 1) (((#[Value.int .i64 0, .string ⟨#[]⟩, .slice none 0 0].setIfInBounds 0 (.int .i64 d.k)).setIfInBounds 1 (.string d.p)).setIfInBounds 2 (.slice A' d.b.length c'))) A' d.b :=
    b1.keep fun q cur' hq => setRow_other _ _ _ _ (fun e => by subst e; rw [q1] at hq; cases hq)
  refine bodyPost_ret (results_cell_row rfl _ _ (w.heap.size + 1) 62 _ (0, 0) _ rfl q4 Tryz.underlying62 rfl (by kernel_rfl)) rfl ⟨A', c', rfl, b2, hbz, HFA.out⟩
set_option maxRecDepth 100000 in
set_option maxHeartbeats 16000000 in
theorem hnoteF_any (hb mb k0 rev : Nat) (D : DataW Unit) (L : List DX) (B : Option Addr) (d : Nat) (w : World) (h2 : w.cell? ⟨hb, 2, none⟩ = some (.map (some mb))) (hmap : MapAt w mb k0 D) (hd : DelsAt w B d L) (hs : SmallD L) (hk0 : k0 + L.length < maxLen) :
    Calls Tryz.prog 29 #[.pointer (some ⟨hb, 0, none⟩), .int .i64 rev, .slice B L.length d] w fun e w' => e = .returned (.slice (some ⟨w.heap.size, 0, none⟩) L.length L.length) ∧ NInv w hb mb w.heap.size k0 D L rev L.length w' ∧ FarN w w' w.heap.size L.length L := by
  have hl : L.length ≤ 10000 := hs.1
  have HD := Lib.hid hd; clear hd
  have HM := Lib.hid hmap
  have HS0 := Lib.hid hs.2
  have HH2 := Lib.hid h2
  have hbl : hb < w.heap.size := World.block_lt_of_cell? w (a := ⟨hb, 2, none⟩) h2
  have hmbl : mb < w.heap.size := by
    obtain ⟨es, ck, he⟩ := hmap.block
    exact (Array.getElem?_eq_some_iff.1 he).1
  have hne : hb ≠ mb := fun e => by
    subst e
    obtain ⟨es, ck, he⟩ := hmap.block
    obtain ⟨C, t, fr, hc⟩ := block_cells h2
    rw [he] at hc; cases hc
  have HNE := Lib.hid hne
  have HBL := Lib.hid hbl
  have HMBL := Lib.hid hmbl
  have HK0 := Lib.hid hk0
  obtain ⟨i0, hi, hz0, hz1, hz2⟩ := info_parts record_info
  have hms := hmap_some mb
  clear hmap hs hbl hmbl hne hk0
  go_enter Tryz.func29, Tryz.ntmps29
  go_wp2_with (refine wpList_make_full _ rfl _ _ 75 rfl w.heap.size 85 i0 (.agg #[.int .i64 0, .string ⟨#[]⟩, .slice none 0 0, .int .i64 0, .pointer none]) 5 Tryz.underlying75 hi hz0 hz1 .i64 .i64 _ _ L.length rfl rfl rfl rfl (by rw [hz2]; omega) (by unfold maxLen; omega) (Nat.le_refl _) ?_; intro w1 hown hgrow)
  have h0 := NInv.zero (hb := hb) (rev := rev) HM.out hown hgrow
  clear hown hgrow h2 hi hz0 hz1 hz2
  go_loopw [24] (fun i wr => ∃ (k : Nat), k ≤ L.length ∧ i = .int .i64 k ∧ NInv w hb mb w.heap.size k0 D L rev k wr ∧ Hid (FarN w wr w.heap.size k L)) (fun i _ => L.length - (intOf i).toNat)
  case atStart => exact ⟨0, Nat.zero_le _, rfl, h0, Lib.hid (fun j x h => absurd h (Nat.not_lt_zero _))⟩
  case round =>
    clear h0
    obtain ⟨k, hk, rfl, hN, hFN⟩ := hrel
    have HFN := hFN
    by_cases h1 : k < L.length
    · obtain ⟨x, hx⟩ : ∃ x, L[k]? = some x := ⟨_, List.getElem?_eq_getElem h1⟩
      obtain ⟨g, o, hB, hgl, ⟨C, tc, fr, hgc⟩, hcs⟩ := HD.out.cells hx
      have hgm : g ≠ mb := fun e => by
        subst e
        obtain ⟨es, ck, he⟩ := HM.out.block
        rw [he] at hgc; cases hgc
      subst hB
      obtain ⟨c1, c2, c3⟩ := hcs wr (hN.grown.block g hgl (fun e => hgm (by simpa using e)))
      have c4 : wr.cell? ⟨hb, 2, none⟩ = some (.map (some mb)) := (World.cell?_of_block (a := ⟨hb, 2, none⟩) (hN.grown.block hb HBL.out (fun e => HNE.out (by simpa using e)))).trans HH2.out
      have hmem := List.mem_of_getElem? hx
      have hsz := HS0.out x hmem
      have HL := Lib.hid hsz.2
      have HP := Lib.hid (show x.p.size ≤ maxLen by have := hsz.1; unfold maxLen; omega)
      have hlk := hN.map.look_eq x.p (by have := hsz.1; unfold maxLen; omega)
      have k1 : (k : Int) < (L.length : Int) := by omega
      have HX := Lib.hid hx
      have HKL := Lib.hid h1
      have hby : BytesAt wr x.A x.b := (HD.out.bytes x hmem).grownMap hN.grown HM.out.block
      have HBY := Lib.hid hby
      obtain ⟨bv, hbv⟩ := ptrOf_ptr (atS (laidS D w.heap.size (L.map fun x => x.p.data.toList) k) x.p.data.toList)
      rw [hbv] at hlk
      have HBV := Lib.hid hbv.symm
      have HN := Lib.hid hN
      clear hx hgl hgc hcs hgm hmem hsz hby hbv hN
      go_wp2_with fail
      obtain ⟨W1, hW1⟩ : ∃ W, wr.alloc (.cells #[.int .i64 x.k, .string x.p, .slice x.A x.b.length x.c] 62) = W := ⟨_, rfl⟩
      have g1 := heap_alloc_new wr (.cells #[.int .i64 x.k, .string x.p, .slice x.A x.b.length x.c] 62)
      have hb1 := below_box wr (.cells #[.int .i64 x.k, .string x.p, .slice x.A x.b.length x.c] 62)
      have hlt : wr.heap.size < W1.heap.size := by rw [← hW1]; simp
      rw [hW1] at g1 hb1 ⊢
      have hbw : hb < wr.heap.size := Nat.lt_of_lt_of_le HBL.out HN.out.grown.size
      have hmw : mb < wr.heap.size := Nat.lt_of_lt_of_le HMBL.out HN.out.grown.size
      have hgw : w.heap.size < wr.heap.size := by
        obtain ⟨cur, hc, _⟩ := HN.out.blk
        exact (Array.getElem?_eq_some_iff.1 hc).1
      have hS : ∀ W : World, W.heap[wr.heap.size]? = W1.heap[wr.heap.size]? → W.heap[hb]? = wr.heap[hb]? → W.heap[mb]? = wr.heap[mb]? → (W.cell? ⟨wr.heap.size, 0, none⟩ = some (.int .i64 x.k) ∧ W.cell? ⟨wr.heap.size, 1, none⟩ = some (.string x.p) ∧ W.cell? ⟨wr.heap.size, 2, none⟩ = some (.slice x.A x.b.length x.c) ∧ W.cell? ⟨hb, 2, none⟩ = some (.map (some mb)) ∧ (Instr.lookup 72 (.map (some mb)) (.string x.p) false).run Tryz.prog W = .ok (.pointer bv) W) := fun W e1 e2 e3 =>
        ⟨cell_of_row W wr.heap.size 0 _ _ _ (e1.trans g1), cell_of_row W wr.heap.size 1 _ _ _ (e1.trans g1), cell_of_row W wr.heap.size 2 _ _ _ (e1.trans g1), (World.cell?_of_block (a := ⟨hb, 2, none⟩) e2).trans c4, by
          have h := (HN.out.map.keep e3).look_eq x.p HP.out
          rw [h, HBV.out]⟩
      have hS0 := hS W1.drew rfl (hb1.block _ hbw) (hb1.block _ hmw)
      have HS := Lib.hid hS
      have HB1 := Lib.hid hb1
      have HLT := Lib.hid hlt
      have HHB := Lib.hid hbw
      have HMB := Lib.hid hmw
      have HG1 := Lib.hid (show wr.heap.size ≠ w.heap.size by omega)
      have HG2 := Lib.hid (show hb ≠ w.heap.size by have := HBL.out; omega)
      have HG3 := Lib.hid (show mb ≠ w.heap.size by have := HMBL.out; omega)
      have HG4 := Lib.hid (show wr.heap.size ≠ mb by omega)
      have HGW := Lib.hid hgw
      clear g1 hb1 hlt hW1 hbw hmw hS hgw c1 c2 c3 c4 hlk
      refine wp_region_held_drew (S := (fun w' => w'.cell? ⟨wr.heap.size, 0, none⟩ = some (.int .i64 x.k) ∧ w'.cell? ⟨wr.heap.size, 1, none⟩ = some (.string x.p) ∧ w'.cell? ⟨wr.heap.size, 2, none⟩ = some (.slice x.A x.b.length x.c) ∧ w'.cell? ⟨hb, 2, none⟩ = some (.map (some mb)) ∧ (Instr.lookup 72 (.map (some mb)) (.string x.p) false).run Tryz.prog w' = .ok (.pointer bv) w')) (by kernel_rfl) ⟨hS0.1, hS0.2⟩ (fun hHeld => ?_)
      refine wpAnyH_take (i := 0) (v := ?vs0) rfl (by kernel_rfl) (by kernel_rfl) (by kernel_rfl) (fun _ _ _ h => h) (Or.inl ⟨by rfl, ?ys0⟩) (by assumption) ?rs0
      case ys0 =>
        intro w hSw
        (try dsimp only at hSw)
        go_simp
        first | done | with_reducible rfl
      try simp only [Act.put, List.getElem_toArray, List.getElem_cons_zero, List.setIfInBounds_toArray, List.set_cons_zero, List.set_cons_succ]
      refine wpAnyH_take (i := 1) (v := ?vs1) rfl (by kernel_rfl) (by kernel_rfl) (by kernel_rfl) (fun _ _ _ h => h) (Or.inl ⟨by rfl, ?ys1⟩) (by assumption) ?rs1
      case ys1 =>
        intro w hSw
        (try dsimp only at hSw)
        go_simp
        first | done | with_reducible rfl
      try simp only [Act.put, List.getElem_toArray, List.getElem_cons_zero, List.getElem_cons_succ, List.setIfInBounds_toArray, List.set_cons_zero, List.set_cons_succ]
      refine wpAnyH_take (i := 2) (v := ?vs2) rfl (by kernel_rfl) (by kernel_rfl) (by kernel_rfl) (fun _ _ _ h => h) (Or.inl ⟨by rfl, ?ys2⟩) (by assumption) ?rs2
      case ys2 =>
        intro w hSw
        (try dsimp only at hSw)
        go_simp
        first | done | with_reducible rfl
      try simp only [Act.put, List.getElem_toArray, List.getElem_cons_zero, List.getElem_cons_succ, List.setIfInBounds_toArray, List.set_cons_zero, List.set_cons_succ]
      refine wpAnyH_take (i := 4) (v := ?vs4) rfl (by kernel_rfl) (by kernel_rfl) (by kernel_rfl) (fun _ _ _ h => h) (Or.inl ⟨by rfl, ?ys4⟩) (by assumption) ?rs4
      case ys4 =>
        intro w hSw
        (try dsimp only at hSw)
        go_simp
        first | done | with_reducible rfl
      try simp only [Act.put, List.getElem_toArray, List.getElem_cons_zero, List.getElem_cons_succ, List.setIfInBounds_toArray, List.set_cons_zero, List.set_cons_succ]
      refine wpAnyH_take (i := 5) (v := ?vs5) rfl (by kernel_rfl) (by kernel_rfl) (by kernel_rfl) (fun _ _ _ h => h) (Or.inl ⟨by rfl, ?ys5⟩) (by assumption) ?rs5
      case ys5 =>
        intro w hSw
        (try dsimp only at hSw)
        go_simp
        first | done | with_reducible rfl
      try simp only [Act.put, List.getElem_toArray, List.getElem_cons_zero, List.getElem_cons_succ, List.setIfInBounds_toArray, List.set_cons_zero, List.set_cons_succ]
      refine wpAnyH_take (i := 6) (v := ?vs6) rfl (by kernel_rfl) (by kernel_rfl) (by kernel_rfl) (fun _ _ _ h => h) (Or.inl ⟨by rfl, ?ys6⟩) (by assumption) ?rs6
      case ys6 =>
        intro w hSw
        (try dsimp only at hSw)
        go_simp
        first | done | with_reducible rfl
      try simp only [Act.put, List.getElem_toArray, List.getElem_cons_zero, List.getElem_cons_succ, List.setIfInBounds_toArray, List.set_cons_zero, List.set_cons_succ]
      refine wpAnyH_take (i := 7) (v := ?vs7) rfl (by kernel_rfl) (by kernel_rfl) (by kernel_rfl) (fun _ _ _ h => h) (Or.inl ⟨by rfl, ?ys7⟩) (by assumption) ?rs7
      case ys7 =>
        intro w hSw
        (try dsimp only at hSw)
        go_simp
        first | done | with_reducible rfl
      try simp only [Act.put, List.getElem_toArray, List.getElem_cons_zero, List.getElem_cons_succ, List.setIfInBounds_toArray, List.set_cons_zero, List.set_cons_succ]
      refine wpAnyH_take (i := 8) (v := ?vs8) rfl (by kernel_rfl) (by kernel_rfl) (by kernel_rfl) (fun _ _ _ h => h) (Or.inl ⟨by rfl, ?ys8⟩) (by assumption) ?rs8
      case ys8 =>
        intro w hSw
        (try dsimp only at hSw)
        go_simp
        first | done | with_reducible rfl
      try simp only [Act.put, List.getElem_toArray, List.getElem_cons_zero, List.getElem_cons_succ, List.setIfInBounds_toArray, List.set_cons_zero, List.set_cons_succ]
      refine wpAnyH_take (i := 9) (v := ?vs9) rfl (by kernel_rfl) (by kernel_rfl) (by kernel_rfl) (fun _ _ _ h => h) (Or.inl ⟨by rfl, ?ys9⟩) (by assumption) ?rs9
      case ys9 =>
        intro w hSw
        (try dsimp only at hSw)
        go_simp
        first | done | with_reducible rfl
      try simp only [Act.put, List.getElem_toArray, List.getElem_cons_zero, List.getElem_cons_succ, List.setIfInBounds_toArray, List.set_cons_zero, List.set_cons_succ]
      refine wpAnyH_take (i := 10) (v := ?vs10) rfl (by kernel_rfl) (by kernel_rfl) (by kernel_rfl) (fun _ _ _ h => h) (Or.inl ⟨by rfl, ?ys10⟩) (by assumption) ?rs10
      case ys10 =>
        intro w hSw
        (try dsimp only at hSw)
        go_simp
        first | done | with_reducible rfl
      try simp only [Act.put, List.getElem_toArray, List.getElem_cons_zero, List.getElem_cons_succ, List.setIfInBounds_toArray, List.set_cons_zero, List.set_cons_succ]
      refine wpAnyH_take (i := 11) (v := ?vs11) rfl (by kernel_rfl) (by kernel_rfl) (by kernel_rfl) (fun _ _ _ h => h) (Or.inl ⟨by rfl, ?ys11⟩) (by assumption) ?rs11
      case ys11 =>
        intro w hSw
        (try dsimp only at hSw)
        go_simp
        first | done | with_reducible rfl
      try simp only [Act.put, List.getElem_toArray, List.getElem_cons_zero, List.getElem_cons_succ, List.setIfInBounds_toArray, List.set_cons_zero, List.set_cons_succ]
      refine wpAnyH_ready (rs := [3]) (by kernel_rfl) (by simp) ?_
      refine AllReadyH.cons rfl (fun K hK => ?_) AllReadyH.nil
      go_simp
      refine (hownF_any x W1.drew (HBY.out.below HB1.out.drew) HL.out).mono ?_
      rintro e w2 ⟨A', c', rfl, hbo, hb2, hfa⟩
      have HFA := Lib.hid (hfa.le (show w.heap.size ≤ W1.heap.size from Nat.le_trans HN.out.grown.size HB1.out.size))
      clear hfa
      have hb12 : Below wr.heap.size wr w2 := HB1.out.drew.trans (hb2.mono HB1.out.drew.size)
      have he2 : w2.heap[wr.heap.size]? = W1.heap[wr.heap.size]? := hb2.block _ HLT.out
      have hs7 := HS.out w2 he2 (hb12.block _ HHB.out) (hb12.block _ HMB.out)
      have HE2 := Lib.hid he2
      have HLTW2 := Lib.hid (show wr.heap.size < w2.heap.size from Nat.lt_of_lt_of_le HLT.out hb2.size)
      have HB12 := Lib.hid hb12
      have HBO := Lib.hid hbo
      clear hb2 hb12 hbo he2
      go_wp2_with fail
      refine hK.out _ _ hs7 (fun hHeld => ?_)
      clear hK K
      try simp only [Act.put, List.getElem_toArray, List.getElem_cons_zero, List.getElem_cons_succ, List.setIfInBounds_toArray, List.set_cons_zero, List.set_cons_succ]
      refine wpAnyH_take (i := 12) (v := ?vs12) rfl (by kernel_rfl) (by kernel_rfl) (by kernel_rfl) (fun _ _ _ h => h) (Or.inl ⟨by rfl, ?ys12⟩) (by assumption) ?rs12
      case ys12 =>
        intro w hSw
        (try dsimp only at hSw)
        go_simp
        first | done | with_reducible rfl
      try simp only [Act.put, List.getElem_toArray, List.getElem_cons_zero, List.getElem_cons_succ, List.setIfInBounds_toArray, List.set_cons_zero, List.set_cons_succ]
      refine wpAnyH_take (i := 13) (v := ?vs13) rfl (by kernel_rfl) (by kernel_rfl) (by kernel_rfl) (fun _ _ _ h => h) (Or.inl ⟨by rfl, ?ys13⟩) (by assumption) ?rs13
      case ys13 =>
        intro w hSw
        (try dsimp only at hSw)
        go_simp
        first | done | with_reducible rfl
      try simp only [Act.put, List.getElem_toArray, List.getElem_cons_zero, List.getElem_cons_succ, List.setIfInBounds_toArray, List.set_cons_zero, List.set_cons_succ]
      refine wpAnyH_ready (rs := [14]) (by kernel_rfl) (by simp) ?_
      refine AllReadyH.cons rfl (fun K hK => ?_) AllReadyH.nil
      have hth := HN.out.there HKL.out HB12.out
      refine step_wanted3 rfl (wp_store_mid 85 (.tmp 42) (.tmp 41) rfl w.heap.size (k * 5) #[.int .i64 x.k, .string x.p, .slice A' x.b.length c', .int .i64 rev, .pointer bv] rfl rfl hth record_size (by simp [Value.oneCell']) ?_)
      have hq : ∀ q, q ≠ w.heap.size → (w2.setCells w.heap.size (k * 5) [.int .i64 x.k, .string x.p, .slice A' x.b.length c', .int .i64 rev, .pointer bv]).heap[q]? = w2.heap[q]? := fun q h => heap_setCells_other w.heap.size q h _ _ _
      have hs8 := HS.out (w2.setCells w.heap.size (k * 5) [.int .i64 x.k, .string x.p, .slice A' x.b.length c', .int .i64 rev, .pointer bv]) ((hq _ HG1.out).trans HE2.out) ((hq _ HG2.out).trans (HB12.out.block _ HHB.out)) ((hq _ HG3.out).trans (HB12.out.block _ HMB.out))
      have HQM := Lib.hid ((hq _ HG3.out).trans (HB12.out.block _ HMB.out))
      have hsz8 := setCells_size w.heap.size [.int .i64 x.k, .string x.p, .slice A' x.b.length c', .int .i64 rev, .pointer bv] (k * 5) w2
      clear hth hq
      refine hK.out _ _ hs8 (fun hHeld => ?_)
      clear hK K
      try simp only [Act.put, List.getElem_toArray, List.getElem_cons_zero, List.getElem_cons_succ]
      refine wpAnyH_done (by kernel_rfl) ?_ _
      go_wp2_with fail
      obtain ⟨_, p1, _, p4, _⟩ := hs8
      have P1 := Lib.hid p1
      have P4 := Lib.hid p4
      clear hs7 hHeld
      obtain ⟨V, hV⟩ : ∃ V, w2.setCells w.heap.size (k * 5) [.int .i64 x.k, .string x.p, .slice A' x.b.length c', .int .i64 rev, .pointer bv] = V := ⟨_, rfl⟩
      rw [hV] at P1 P4 HQM hsz8 p1 p4 ⊢
      have HV := Lib.hid hV
      have hm8 : MapAt V.drew mb (k0 + k) (laidS D w.heap.size (L.map fun x => x.p.data.toList) k) := HN.out.map.keep HQM.out
      have HLT8 := Lib.hid (show wr.heap.size < V.heap.size by have := HB12.out.size; have := HLTW2.out; omega)
      have HHB8 := Lib.hid (show hb < V.heap.size by have := HB12.out.size; have := HHB.out; omega)
      clear hV
      refine wp_region_held_drew (S := (fun w' => w'.cell? ⟨wr.heap.size, 1, none⟩ = some (.string x.p) ∧ w'.cell? ⟨hb, 2, none⟩ = some (.map (some mb)))) (by kernel_rfl) ⟨P1.out, P4.out⟩ (fun hHeld => ?_)
      refine wpAnyH_take (i := 0) (v := ?vu0) rfl (by kernel_rfl) (by kernel_rfl) (by kernel_rfl) (fun _ _ _ h => h) (Or.inl ⟨by rfl, ?yu0⟩) (by assumption) ?ru0
      case yu0 =>
        intro w hSw
        (try dsimp only at hSw)
        go_simp
        first | done | with_reducible rfl
      try simp only [Act.put, List.getElem_toArray, List.getElem_cons_zero, List.setIfInBounds_toArray, List.set_cons_zero, List.set_cons_succ]
      refine wpAnyH_take (i := 1) (v := ?vu1) rfl (by kernel_rfl) (by kernel_rfl) (by kernel_rfl) (fun _ _ _ h => h) (Or.inl ⟨by rfl, ?yu1⟩) (by assumption) ?ru1
      case yu1 =>
        intro w hSw
        (try dsimp only at hSw)
        go_simp
        first | done | with_reducible rfl
      try simp only [Act.put, List.getElem_toArray, List.getElem_cons_zero, List.getElem_cons_succ, List.setIfInBounds_toArray, List.set_cons_zero, List.set_cons_succ]
      refine wpAnyH_take (i := 2) (v := ?vu2) rfl (by kernel_rfl) (by kernel_rfl) (by kernel_rfl) (fun _ _ _ h => h) (Or.inl ⟨by rfl, ?yu2⟩) (by assumption) ?ru2
      case yu2 =>
        intro w hSw
        (try dsimp only at hSw)
        go_simp
        first | done | with_reducible rfl
      try simp only [Act.put, List.getElem_toArray, List.getElem_cons_zero, List.getElem_cons_succ, List.setIfInBounds_toArray, List.set_cons_zero, List.set_cons_succ]
      refine wpAnyH_take (i := 3) (v := ?vu3) rfl (by kernel_rfl) (by kernel_rfl) (by kernel_rfl) (fun _ _ _ h => h) (Or.inl ⟨by rfl, ?yu3⟩) (by assumption) ?ru3
      case yu3 =>
        intro w hSw
        (try dsimp only at hSw)
        go_simp
        first | done | with_reducible rfl
      try simp only [Act.put, List.getElem_toArray, List.getElem_cons_zero, List.getElem_cons_succ, List.setIfInBounds_toArray, List.set_cons_zero, List.set_cons_succ]
      refine wpAnyH_take (i := 4) (v := ?vu4) rfl (by kernel_rfl) (by kernel_rfl) (by kernel_rfl) (fun _ _ _ h => h) (Or.inl ⟨by rfl, ?yu4⟩) (by assumption) ?ru4
      case yu4 =>
        intro w hSw
        (try dsimp only at hSw)
        go_simp
        first | done | with_reducible rfl
      try simp only [Act.put, List.getElem_toArray, List.getElem_cons_zero, List.getElem_cons_succ, List.setIfInBounds_toArray, List.set_cons_zero, List.set_cons_succ]
      refine wpAnyH_take (i := 5) (v := ?vu5) rfl (by kernel_rfl) (by kernel_rfl) (by kernel_rfl) (fun _ _ _ h => h) (Or.inl ⟨by rfl, ?yu5⟩) (by assumption) ?ru5
      case yu5 =>
        intro w hSw
        (try dsimp only at hSw)
        go_simp
        first | done | with_reducible rfl
      try simp only [Act.put, List.getElem_toArray, List.getElem_cons_zero, List.getElem_cons_succ, List.setIfInBounds_toArray, List.set_cons_zero, List.set_cons_succ]
      refine wpAnyH_take (i := 6) (v := ?vu6) rfl (by kernel_rfl) (by kernel_rfl) (by kernel_rfl) (fun _ _ _ h => h) (Or.inl ⟨by rfl, ?yu6⟩) (by assumption) ?ru6
      case yu6 =>
        intro w hSw
        (try dsimp only at hSw)
        go_simp
        first | done | with_reducible rfl
      try simp only [Act.put, List.getElem_toArray, List.getElem_cons_zero, List.getElem_cons_succ, List.setIfInBounds_toArray, List.set_cons_zero, List.set_cons_succ]
      refine wpAnyH_take (i := 7) (v := ?vu7) rfl (by kernel_rfl) (by kernel_rfl) (by kernel_rfl) (fun _ _ _ h => h) (Or.inl ⟨by rfl, ?yu7⟩) (by assumption) ?ru7
      case yu7 =>
        intro w hSw
        (try dsimp only at hSw)
        go_simp
        first | done | with_reducible rfl
      try simp only [Act.put, List.getElem_toArray, List.getElem_cons_zero, List.getElem_cons_succ, List.setIfInBounds_toArray, List.set_cons_zero, List.set_cons_succ]
      refine wpAnyH_take (i := 8) (v := ?vu8) rfl (by kernel_rfl) (by kernel_rfl) (by kernel_rfl) (fun _ _ _ h => h) (Or.inl ⟨by rfl, ?yu8⟩) (by assumption) ?ru8
      case yu8 =>
        intro w hSw
        (try dsimp only at hSw)
        go_simp
        first | done | with_reducible rfl
      try simp only [Act.put, List.getElem_toArray, List.getElem_cons_zero, List.getElem_cons_succ, List.setIfInBounds_toArray, List.set_cons_zero, List.set_cons_succ]
      refine wpAnyH_ready (rs := [9]) (by kernel_rfl) (by simp) ?_
      refine AllReadyH.cons rfl (fun K hK => ?_) AllReadyH.nil
      refine step_wanted3 rfl (wp_putS (.tmp 46) (.tmp 48) (.tmp 51) rfl mb (k0 + k) _ rfl hm8 (by have := HK0.out; have := HKL.out; omega) x.p rfl HP.out w.heap.size (k * 5) rfl ?_)
      intro w4 hm4 hg4
      have hs4 : w4.cell? ⟨wr.heap.size, 1, none⟩ = some (.string x.p) ∧ w4.cell? ⟨hb, 2, none⟩ = some (.map (some mb)) := ⟨(World.cell?_of_block (a := ⟨wr.heap.size, 1, none⟩) (hg4.block _ HLT8.out (fun e => HG4.out (by simpa using e)))).trans P1.out, (World.cell?_of_block (a := ⟨hb, 2, none⟩) (hg4.block _ HHB8.out (fun e => HNE.out (by simpa using e)))).trans P4.out⟩
      refine hK.out _ _ hs4 (fun hHeld => ?_)
      clear hK K
      try simp only [Act.put, List.getElem_toArray, List.getElem_cons_zero, List.getElem_cons_succ]
      refine wpAnyH_done (by kernel_rfl) ?_ _
      have HM4 := Lib.hid hm4
      have HG5 := Lib.hid hg4
      clear hm4 hg4 hm8 hs4 hHeld p1 p4
      go_wp2_with fail
      go_roundw
      case rel => exact ⟨k + 1, by have := HKL.out; omega, by go_num, HN.out.next HX.out HB12.out HBO.out HBV.out HM4.out (by rw [HV.out]; exact ⟨HG5.out.os, HG5.out.tape, HG5.out.output, HG5.out.size, HG5.out.block⟩), Lib.hid (HFN.out.next HN.out HX.out HB12.out HFA.out (c' := c') (by rw [HV.out]; exact ⟨HG5.out.os, HG5.out.tape, HG5.out.output, HG5.out.size, HG5.out.block⟩))⟩
      case measure => have := HKL.out; simp [intOf]; omega
    · obtain rfl : k = L.length := by omega
      go_wp2_with fail
      go_ret
      exact ⟨rfl, hN, hFN.out⟩
end Go.Proofs.YtffhfllikamccaaGreatDoor
namespace Go.Proofs.YtffhfllikamccaaGreatDoor
open Go Go.RowKit Go.Shelf Go.Proofs Go.ChangeMaps Go.Maps Go.WideMaps
attribute [local go_sem] Oper.semAt_some

def CommitPostF (w0 : World) (hb n : Nat) (nm0 : List FX) (M : Bs → Nat) (L : List DX) (w : World) (H : List (Nat × List DX)) (mb0 : Nat) (e : Ending) (w' : World) : Prop :=
  (∃ q : Int, q ≠ 0 ∧ (L = [] ∨ applyT (flsX nm0) (L.map DX.dl) = .error q) ∧ e = .returned (.tuple #[.int .i64 0, .int .i64 q]) ∧ Below w.heap.size w w') ∨
  (∃ nm nv cv mb k D G, L ≠ [] ∧ (∃ f, applyT (flsX nm0) (L.map DX.dl) = .ok f ∧ flsX nm = bareT f) ∧ e = .returned (.tuple #[.int .i64 ((n + 1 : Nat) : Int), .int .i64 0]) ∧ HistAt w0.heap.size w' hb (n + 1) nm (fun s => if s ∈ (L.map fun x => x.p.data.toList) then n + 1 else M s) nv cv mb k D ((G, L) :: H) ∧ Below w0.heap.size w w' ∧ KeepR w w' ∧ KeepM mb w w' ∧ mb = mb0 ∧ FarN w w' G L.length L)

set_option maxRecDepth 100000 in
set_option maxHeartbeats 16000000 in
theorem hcommitF_any (w0 : World) (hb n : Nat) (nm : List FX) (M : Bs → Nat) (nv cv : Value) (mb k : Nat) (D : DataW Unit) (H : List (Nat × List DX)) (L : List DX) (B : Option Addr) (d : Nat) (w : World) (hH : HistAt w0.heap.size w hb n nm M nv cv mb k D H) (h0 : Below w0.heap.size w0 w) (hn : n < 100000) (hd : DelsKeep w hb B d L) (hs : SmallD L) (hm : MaxOk w0) :
    Calls Tryz.prog 9 #[.pointer (some ⟨hb, 0, none⟩), .slice B L.length d] w (CommitPostF w0 hb n nm M L w H mb) := by
  obtain ⟨Ac, cc, rfl, hcc⟩ := hH.commit_slice
  obtain ⟨An, cn, rfl, hT⟩ := hH.tree
  have c0 := cell_of_row w hb 0 _ _ _ hH.heap
  have c1 := cell_of_row w hb 1 _ _ _ hH.heap
  have HH := Lib.hid hH
  have HB0 := Lib.hid h0
  have HD := Lib.hid hd
  have HSD := Lib.hid hs
  have HM := Lib.hid hm
  have HNL := Lib.hid hn
  cases L with
  | nil =>
    clear hH h0 hd hs hm hn hT hcc
    go_enter Tryz.func9, Tryz.ntmps9
    go_wp2_with fail
    go_ret2
    exact .inl ⟨2, by decide, .inl rfl, rfl, Below.refl _ _⟩
  | cons x0 L0 =>
  obtain ⟨L, hL⟩ : ∃ L, x0 :: L0 = L := ⟨_, rfl⟩
  rw [hL] at HD HSD ⊢
  have hne : L ≠ [] := by rw [← hL]; simp
  have hl1 : ((L.length : Int) == 0) = false := by
    rw [beq_eq_false_iff_ne]
    have := List.length_pos_iff.2 hne
    omega
  have HNEL := Lib.hid hne
  have hl0 : ((n : Int) == 100000) = false := by rw [beq_eq_false_iff_ne]; omega
  obtain ⟨hsx, hlx⟩ := hH.small
  have HA := Lib.hid (tapply_any nm L An B cn d w hT hsx (by omega) (HD.out w (Nat.le_refl _) (fun _ _ _ => rfl)) HSD.out (hm.below h0))
  have HHEAD := Lib.hid (hhead_any hb Ac n cc w c1)
  clear hH h0 hd hs hm hT hcc hsx hlx hne hL hn
  go_enter Tryz.func9, Tryz.ntmps9
  go_wp2_with fail
  refine HHEAD.out.mono ?_
  rintro e w9 ⟨rfl, hw9⟩
  have hw9 := hw9.symm
  subst hw9
  go_wp2_with fail
  refine HA.out.mono ?_
  intro e w1 hp
  unfold ApplyPost at hp
  cases hap : applyT (flsX nm) (L.map DX.dl) with
  | error q =>
    rw [hap] at hp
    obtain ⟨rfl, hb1⟩ := hp
    have hq := applyT_err hap
    have hq1 : (q != 0) = true := by simpa using hq
    have HQ := Lib.hid hq
    have HAP := Lib.hid hap
    clear hap hq
    go_wp2_with fail
    go_ret2
    exact .inl ⟨q, HQ.out, .inr HAP.out, rfl, hb1⟩
  | ok f =>
    rw [hap] at hp
    obtain ⟨v', l', rfl, hmade, hfl, hb1⟩ := hp
    have hrt := applyT_ok hap
    rw [← hfl] at hrt
    obtain ⟨A', c', rfl⟩ := hmade.own.slice
    have htree := (hmade.own.tree fun x hx => (hmade.bod x hx).at_).2
    have hlen := right_len hrt
    rw [flsX_length] at hlen
    have HRT := Lib.hid hrt
    have HAP := Lib.hid hap
    have HFL := Lib.hid hfl
    have HB1 := Lib.hid hb1
    have HBARE := Lib.hid (hbare_any l' A' c' w1 htree (by omega))
    clear hap hmade hfl hrt htree hlen hb1
    go_wp2_with fail
    refine HBARE.out.mono ?_
    rintro e w2 ⟨nv1, rfl, hnm, hb2⟩
    obtain ⟨Av, cv', rfl⟩ := hnm.slice
    have hb12 := HB1.out.trans (hb2.mono HB1.out.size)
    have hh2 : w2.heap[hb]? = _ := (hb12.block hb (Array.getElem?_eq_some_iff.1 HH.out.heap).1).trans HH.out.heap
    have HNM := Lib.hid hnm
    have HB12 := Lib.hid hb12
    have HB1S := Lib.hid (show w0.heap.size ≤ w1.heap.size from Nat.le_trans HB0.out.size HB1.out.size)
    have c0 := cell_of_row w2 hb 0 _ _ _ hh2
    have f0 : w2.frozen? ⟨hb, 0, none⟩ = false := by simp [World.frozen?, hh2]
    have HH2 := Lib.hid hh2
    clear hnm hb12 hh2 hb2 c1
    go_wp2_with fail
    obtain ⟨w3, hw3⟩ : ∃ W, w2.setCell ⟨hb, 0, none⟩ (Value.slice Av (bareX l').length cv') = W := ⟨_, rfl⟩
    rw [hw3]
    have hh3 : w3.heap[hb]? = some (.cells #[(Value.slice Av (bareX l').length cv'), .slice Ac n cc, .map (some mb)] 74 (0, 0)) := by
      rw [← hw3, setCell_eq_setRow _ _ _ _ _ _ _ HH2.out]
      exact setRow_heap _ _ _ _ _ _ HH2.out
    have ho3 : ∀ q, q ≠ hb → w3.heap[q]? = w2.heap[q]? := fun q h => by rw [← hw3]; exact Below.heap_setCell _ _ _ _ h
    have hs3 : w3.heap.size = w2.heap.size := by rw [← hw3]; simp [World.setCell]
    have hg3 : w2.grownBy w3 (some hb) := ⟨by rw [← hw3]; rfl, by rw [← hw3]; rfl, by rw [← hw3]; rfl, Nat.le_of_eq hs3.symm, fun q hq hn => ho3 q (fun e => hn (by rw [e]))⟩
    have hne : hb ≠ mb := fun e => by
      obtain ⟨es, ck, hx⟩ := HH.out.map.block
      rw [← e, HH.out.heap] at hx; cases hx
    have hmb : mb < w.heap.size := by
      obtain ⟨es, ck, hx⟩ := HH.out.map.block
      exact (Array.getElem?_eq_some_iff.1 hx).1
    have hbl : hb < w.heap.size := (Array.getElem?_eq_some_iff.1 HH.out.heap).1
    have hmap3 : MapAt w3 mb k D := (HH.out.map.below HB12.out).keep (ho3 mb (Ne.symm hne))
    have hb03 : Below w0.heap.size w w3 := (HB12.out.mono HB0.out.size).trans ⟨hg3.os, hg3.tape, hg3.output, hg3.size, fun q hq => ho3 q (by have := HH.out.lb; omega)⟩
    have hrows := HH.out.commits
    obtain ⟨rows, hrv⟩ : ∃ rows, rowsV H = rows := ⟨_, rfl⟩
    rw [hrv] at hrows
    have HRV := Lib.hid hrv; clear hrv
    have hrow_ne : ∀ g, (Value.slice Ac n cc).ownBlock = some g → g ≠ hb ∧ g ≠ mb := fun g e => by
      obtain ⟨_, cur, hx⟩ := own_blk hrows e
      refine ⟨fun e2 => ?_, fun e2 => ?_⟩
      · subst e2; rw [HH.out.heap] at hx; cases hx
      · subst e2
        obtain ⟨es, ck, hy⟩ := HH.out.map.block
        rw [hy] at hx; cases hx
    have hrows3 : w3.ownsRow w0.heap.size 75 1 (.slice Ac n cc) n rows := by
      have h1 : w2.ownsRow w0.heap.size 75 1 (.slice Ac n cc) n rows := hrows.kept (row := none) ⟨HB12.out.os, HB12.out.tape, HB12.out.output, HB12.out.size, fun k hk _ => HB12.out.block k hk⟩ (by cases (Value.slice Ac n cc).ownBlock <;> simp)
      refine h1.kept hg3 ?_
      cases e : (Value.slice Ac n cc).ownBlock with
      | none => exact .inl rfl
      | some g => exact .inr (fun e2 => (hrow_ne g e).1 (by simpa using e2))
    have hown : ∀ w4 : World, w3.drew.grownBy w4 (some mb) → w4.ownsRow w0.heap.size 75 1 (.slice Ac n cc) n rows := fun w4 hg => by
      refine World.ownsRow.kept (w := w3.drew) hrows3 hg ?_
      cases e : (Value.slice Ac n cc).ownBlock with
      | none => exact .inl rfl
      | some g => exact .inr (fun e2 => (hrow_ne g e).2 (by simpa using e2))
    have hnote : Calls Tryz.prog 29 #[.pointer (some ⟨hb, 0, none⟩), .int .i64 ((n + 1 : Nat) : Int), .slice B L.length d] w3.drew fun e w' => e = .returned (.slice (some ⟨w3.heap.size, 0, none⟩) L.length L.length) ∧ NInv w3.drew hb mb w3.heap.size k D L ((n + 1 : Nat) : Int) L.length w' ∧ FarN w3.drew w' w3.heap.size L.length L :=
      hnoteF_any hb mb k (n + 1) D L B d w3.drew (cell_of_row w3 hb 2 _ _ _ hh3) hmap3 (HD.out w3.drew hb03.size (fun q h1 h2 => (ho3 q h2).trans (HB12.out.block q h1))) HSD.out (by have h1 := HH.out.room; have h2 := HSD.out.1; have h3 := HNL.out; unfold maxLen; omega)
    have hHeld : w3.drew.cell? ⟨hb, 1, none⟩ = some (.slice Ac n cc) := cell_of_row w3 hb 1 _ _ _ hh3
    have HNOTE := Lib.hid hnote
    have HMAP3 := Lib.hid hmap3
    have HOWN := Lib.hid hown
    have HNE := Lib.hid hne
    have HRN := Lib.hid hrow_ne
    have HH3 := Lib.hid hh3
    have HG3 := Lib.hid hg3
    have HB03 := Lib.hid hb03
    have HMB3 := Lib.hid (show mb < w3.heap.size by have := HB12.out.size; omega)
    have HLT3 : Hid (hb < w3.drew.heap.size) := (show hb < w3.heap.size by have := HB12.out.size; omega)
    have HBS := Lib.hid (show w0.heap.size ≤ w3.heap.size by have := HB12.out.size; have := HB0.out.size; omega)
    have HS3 := Lib.hid hs3
    have HN1 := Lib.hid (show IntKind.i64.wrap ((n : Int) + 1) = ((n + 1 : Nat) : Int) by rw [IntWalk.i64_in _ (by have := HNL.out; omega)]; omega)
    clear hw3 hh3 ho3 hs3 hg3 hne hmb hbl hmap3 hb03 hrows hrow_ne hrows3 hown hnote c0 f0
    refine wp_region_last (fun w' => w'.cell? ⟨hb, 1, none⟩ = some (.slice Ac n cc)) 15 (by kernel_rfl) ?_
    refine wpAnyL_take (i := 0) (v := ?vc0) rfl (by kernel_rfl) (by kernel_rfl) (by kernel_rfl) (by kernel_rfl) (by kernel_rfl) (fun _ _ _ h => h) hHeld (Or.inl ⟨by rfl, ?yc0⟩) ?rc0
    case yc0 =>
      intro w hSw
      (try dsimp only at hSw)
      go_simp
      first | done | with_reducible rfl
    try simp only [Act.put, List.getElem_toArray, List.getElem_cons_zero, List.setIfInBounds_toArray, List.set_cons_zero, List.set_cons_succ]
    refine wpAnyL_take (i := 1) (v := ?vc1) rfl (by kernel_rfl) (by kernel_rfl) (by kernel_rfl) (by kernel_rfl) (by kernel_rfl) (fun _ _ _ h => h) hHeld (Or.inl ⟨by rfl, ?yc1⟩) ?rc1
    case yc1 =>
      intro w hSw
      (try dsimp only at hSw)
      go_simp
      first | done | with_reducible rfl
    try simp only [Act.put, List.getElem_toArray, List.getElem_cons_zero, List.getElem_cons_succ, List.setIfInBounds_toArray, List.set_cons_zero, List.set_cons_succ]
    refine wpAnyL_take (i := 2) (v := ?vc2) rfl (by kernel_rfl) (by kernel_rfl) (by kernel_rfl) (by kernel_rfl) (by kernel_rfl) (fun _ _ _ h => h) hHeld (Or.inl ⟨by rfl, ?yc2⟩) ?rc2
    case yc2 =>
      intro w hSw
      (try dsimp only at hSw)
      go_simp
      first | done | with_reducible rfl
    try simp only [Act.put, List.getElem_toArray, List.getElem_cons_zero, List.getElem_cons_succ, List.setIfInBounds_toArray, List.set_cons_zero, List.set_cons_succ]
    refine wpAnyL_take (i := 3) (v := ?vc3) rfl (by kernel_rfl) (by kernel_rfl) (by kernel_rfl) (by kernel_rfl) (by kernel_rfl) (fun _ _ _ h => h) hHeld (Or.inl ⟨by rfl, ?yc3⟩) ?rc3
    case yc3 =>
      intro w hSw
      (try dsimp only at hSw)
      go_simp
      first | done | with_reducible rfl
    try simp only [Act.put, List.getElem_toArray, List.getElem_cons_zero, List.getElem_cons_succ, List.setIfInBounds_toArray, List.set_cons_zero, List.set_cons_succ]
    refine wpAnyL_take (i := 4) (v := ?vc4) rfl (by kernel_rfl) (by kernel_rfl) (by kernel_rfl) (by kernel_rfl) (by kernel_rfl) (fun _ _ _ h => h) hHeld (Or.inl ⟨by rfl, ?yc4⟩) ?rc4
    case yc4 =>
      intro w hSw
      (try dsimp only at hSw)
      go_simp
      first | done | with_reducible rfl
    try simp only [Act.put, List.getElem_toArray, List.getElem_cons_zero, List.getElem_cons_succ, List.setIfInBounds_toArray, List.set_cons_zero, List.set_cons_succ]
    refine wpAnyL_take (i := 5) (v := ?vc5) rfl (by kernel_rfl) (by kernel_rfl) (by kernel_rfl) (by kernel_rfl) (by kernel_rfl) (fun _ _ _ h => h) hHeld (Or.inl ⟨by rfl, ?yc5⟩) ?rc5
    case yc5 =>
      intro w hSw
      (try dsimp only at hSw)
      go_simp
      first | done | with_reducible rfl
    try simp only [Act.put, List.getElem_toArray, List.getElem_cons_zero, List.getElem_cons_succ, List.setIfInBounds_toArray, List.set_cons_zero, List.set_cons_succ]
    refine wpAnyL_take (i := 6) (v := ?vc6) rfl (by kernel_rfl) (by kernel_rfl) (by kernel_rfl) (by kernel_rfl) (by kernel_rfl) (fun _ _ _ h => h) hHeld (Or.inl ⟨by rfl, ?yc6⟩) ?rc6
    case yc6 =>
      intro w hSw
      (try dsimp only at hSw)
      go_simp
      first | done | with_reducible rfl
    try simp only [Act.put, List.getElem_toArray, List.getElem_cons_zero, List.getElem_cons_succ, List.setIfInBounds_toArray, List.set_cons_zero, List.set_cons_succ]
    refine wpAnyL_take (i := 9) (v := ?vc9) rfl (by kernel_rfl) (by kernel_rfl) (by kernel_rfl) (by kernel_rfl) (by kernel_rfl) (fun _ _ _ h => h) hHeld (Or.inl ⟨by rfl, ?yc9⟩) ?rc9
    case yc9 =>
      intro w hSw
      (try dsimp only at hSw)
      go_simp
      first | done | with_reducible rfl
    try simp only [Act.put, List.getElem_toArray, List.getElem_cons_zero, List.getElem_cons_succ, List.setIfInBounds_toArray, List.set_cons_zero, List.set_cons_succ]
    refine wpAnyL_one (i := 7) (by kernel_rfl) rfl rfl (fun K hK => ?_)
    go_simp
    refine (hhead_any hb Ac n cc w3.drew hHeld).mono ?_
    rintro e w9 ⟨rfl, rfl⟩
    go_wp2_with fail
    refine hK.out _ _ (fun _ => hHeld) ?_
    clear hK K
    try simp only [Act.put, List.getElem_toArray, List.getElem_cons_zero, List.getElem_cons_succ, List.setIfInBounds_toArray, List.set_cons_zero, List.set_cons_succ]
    refine wpAnyL_take (i := 8) (v := ?vc8) rfl (by kernel_rfl) (by kernel_rfl) (by kernel_rfl) (by kernel_rfl) (by kernel_rfl) (fun _ _ _ h => h) hHeld (Or.inl ⟨by rfl, ?yc8⟩) ?rc8
    case yc8 =>
      intro w hSw
      (try dsimp only at hSw)
      go_simp
      first | done | with_reducible rfl
    try simp only [Act.put, List.getElem_toArray, List.getElem_cons_zero, List.getElem_cons_succ, List.setIfInBounds_toArray, List.set_cons_zero, List.set_cons_succ]
    refine wpAnyL_one (i := 10) (by kernel_rfl) rfl rfl (fun K hK => ?_)
    go_simp
    rw [HN1.out]
    refine HNOTE.out.mono ?_
    rintro e w4 ⟨rfl, hN, hFN⟩
    have HFN := Lib.hid hFN
    clear hFN
    have hh4 : w4.heap[hb]? = some (.cells #[(Value.slice Av (bareX l').length cv'), .slice Ac n cc, .map (some mb)] 74 (0, 0)) := (hN.grown.block hb HLT3.out (fun e => HNE.out (by simpa using e))).trans HH3.out
    have hHeld : w4.cell? ⟨hb, 1, none⟩ = some (.slice Ac n cc) := cell_of_row w4 hb 1 _ _ _ hh4
    have HN := Lib.hid hN
    have HH4 := Lib.hid hh4
    clear hN hh4
    go_wp2_with fail
    refine hK.out _ _ (fun _ => hHeld) ?_
    clear hK K
    try simp only [Act.put, List.getElem_toArray, List.getElem_cons_zero, List.getElem_cons_succ, List.setIfInBounds_toArray, List.set_cons_zero, List.set_cons_succ]
    refine wpAnyL_one (i := 11) (by kernel_rfl) rfl rfl (fun K hK => ?_)
    go_simp
    have hHeld : (w4.alloc (.cells #[.slice (some ⟨w3.heap.size, 0, none⟩) L.length L.length] 75)).cell? ⟨hb, 1, none⟩ = some (.slice Ac n cc) := ((below_box w4 _).cell (World.block_lt_of_cell? _ (a := ⟨hb, 1, none⟩) hHeld)).trans hHeld
    refine hK.out _ _ (fun _ => hHeld) ?_
    clear hK K
    try simp only [Act.put, List.getElem_toArray, List.getElem_cons_zero, List.getElem_cons_succ, List.setIfInBounds_toArray, List.set_cons_zero, List.set_cons_succ]
    refine wpAnyL_one (i := 12) (by kernel_rfl) rfl rfl (fun K hK => ?_)
    have hown := HOWN.out w4 HN.out.grown
    obtain ⟨i0, hi, hz0, hz1, hz2⟩ := info_parts recs_info
    refine wp_append_own _ (.tmp 40) (.tmp 47) 71 rfl w0.heap.size 75 i0 (.slice none 0 0) 1 24 Tryz.underlying71 hi hz0 hz1 hz2 rfl (by decide) (.slice Ac n cc) n rows rfl (hown.alloc _) ⟨w4.heap.size, 0, none⟩ 1 1 [.slice (some ⟨w3.heap.size, 0, none⟩) L.length L.length] rfl rfl (cell_one_h _ _ _) (by simp [Value.oneCell']) (by have := HNL.out; unfold maxLen; omega) (by have := HNL.out; omega) (by have h : w3.heap.size ≤ w4.heap.size := HN.out.grown.size; have := HBS.out; simp; omega) ?_
    intro v6 w6 hown6 hgrow hnil
    obtain ⟨A6, c6, rfl⟩ := own_slice hown6
    have hrow6 : ∀ g, (Value.slice Ac n cc).ownBlock = some g → g ≠ hb := fun g e1 e2 => by
        subst e2
        obtain ⟨_, cur, hh⟩ := own_blk hown e1
        rw [HH4.out] at hh; cases hh
    have hh6 : w6.heap[hb]? = some (.cells #[(Value.slice Av (bareX l').length cv'), .slice Ac n cc, .map (some mb)] 74 (0, 0)) := (hgrow.block hb (by have := (Array.getElem?_eq_some_iff.1 HH4.out).1; simp; omega) (fun e => hrow6 hb e.symm rfl)).trans ((Below.heap_alloc _ _ _ (Array.getElem?_eq_some_iff.1 HH4.out).1).trans HH4.out)
    have hHeld : w6.cell? ⟨hb, 1, none⟩ = some (.slice Ac n cc) := cell_of_row w6 hb 1 _ _ _ hh6
    have HO4 := Lib.hid hown
    have HO6 := Lib.hid hown6
    have HG6 := Lib.hid hgrow
    have HH6 := Lib.hid hh6
    have HR6 := Lib.hid hrow6
    clear hown hown6 hgrow hnil hh6 hrow6 hi hz0 hz1 hz2
    refine hK.out _ _ (fun _ => hHeld) ?_
    clear hK K
    try simp only [Act.put, List.getElem_toArray, List.getElem_cons_zero, List.getElem_cons_succ, List.setIfInBounds_toArray, List.set_cons_zero, List.set_cons_succ]
    refine wpAnyL_one (i := 13) (by kernel_rfl) rfl rfl (fun K hK => ?_)
    go_simp
    refine hK.out _ _ (fun _ => hHeld) ?_
    clear hK K
    try simp only [Act.put, List.getElem_toArray, List.getElem_cons_zero, List.getElem_cons_succ, List.setIfInBounds_toArray, List.set_cons_zero, List.set_cons_succ]
    refine wpAnyL_take (i := 14) (v := ?vc14) rfl (by kernel_rfl) (by kernel_rfl) (by kernel_rfl) (by kernel_rfl) (by kernel_rfl) (fun _ _ _ h => h) hHeld (Or.inl ⟨by rfl, ?yc14⟩) ?rc14
    case yc14 =>
      intro w hSw
      (try dsimp only at hSw)
      go_simp
      first | done | with_reducible rfl
    try simp only [Act.put, List.getElem_toArray, List.getElem_cons_zero, List.getElem_cons_succ, List.setIfInBounds_toArray, List.set_cons_zero, List.set_cons_succ]
    refine wpAnyL_one (i := 15) (by kernel_rfl) rfl rfl (fun K hK => ?_)
    have f6 : w6.frozen? ⟨hb, 1, none⟩ = false := by simp [World.frozen?, HH6.out]
    have cs6 := hHeld
    go_simp
    clear f6 cs6
    refine hK.out _ _ (fun h => absurd rfl h) ?_
    clear hK K
    try simp only [Act.put, List.getElem_toArray, List.getElem_cons_zero, List.getElem_cons_succ, List.setIfInBounds_toArray, List.set_cons_zero, List.set_cons_succ]
    refine wpAnyL_done (by kernel_rfl) ?_ _
    clear hHeld
    obtain ⟨w7, hw7⟩ : ∃ W, w6.setCell ⟨hb, 1, none⟩ (.slice A6 (n + 1) c6) = W := ⟨_, rfl⟩
    rw [hw7]
    have hh7 : w7.heap[hb]? = some (.cells #[(Value.slice Av (bareX l').length cv'), .slice A6 (n + 1) c6, .map (some mb)] 74 (0, 0)) := by
      rw [← hw7, setCell_eq_setRow _ _ _ _ _ _ _ HH6.out]
      exact setRow_heap _ _ _ _ _ _ HH6.out
    have hg7 : w6.grownBy w7 (some hb) := ⟨by rw [← hw7]; rfl, by rw [← hw7]; rfl, by rw [← hw7]; rfl, by rw [← hw7]; simp [World.setCell], fun q hq hn => by rw [← hw7]; exact Below.heap_setCell _ _ _ _ (fun e => hn (by rw [e]))⟩
    obtain ⟨W5, hW5⟩ : ∃ W, w4.alloc (.cells #[.slice (some ⟨w3.heap.size, 0, none⟩) L.length L.length] 75) = W := ⟨_, rfl⟩
    have hb5 : Below w4.heap.size w4 W5 := by rw [← hW5]; exact below_box _ _
    have hg6 := HG6.out
    have ho5 := HO4.out.alloc (.cells #[.slice (some ⟨w3.heap.size, 0, none⟩) L.length L.length] 75)
    rw [hW5] at hg6 ho5
    have hq7 : ∀ q, q < w4.heap.size → q ≠ hb → (∀ g, (Value.slice Ac n cc).ownBlock = some g → q ≠ g) → w7.heap[q]? = w4.heap[q]? := fun q h1 h2 h3 => by
      have h5 := hb5.size
      have h6 := hg6.size
      rw [hg7.block q (by omega) (fun e => h2 (by simpa using e)), hg6.block q (by omega) (fun e => h3 q e.symm rfl), hb5.block q h1]
    have hmb4 : mb < w4.heap.size := by
      have h : w3.heap.size ≤ w4.heap.size := HN.out.grown.size
      have := HMB3.out
      omega
    have hmap7 := HN.out.map.keep (hq7 mb hmb4 (Ne.symm HNE.out) (fun g e e2 => (HRN.out g e).2 e2.symm))
    have hnames7 : FilesOwn w0.heap.size w7 (Value.slice Av (bareX l').length cv') (bareX l') := by
      have h3 := HNM.out.keepG HG3.out (fun g e cur hx => by
        have e : hb = g := by simpa using e
        subst e
        rw [HH2.out] at hx; cases hx)
      have h4 : FilesOwn w1.heap.size w4 (Value.slice Av (bareX l').length cv') (bareX l') := FilesOwn.keepG (w := w3.drew) h3 HN.out.grown (fun g e cur hx => by
        have e : mb = g := by simpa using e
        subst e
        obtain ⟨es, ck, hy⟩ := (HMAP3.out : MapAt w3 mb k D).block
        have hx : w3.heap[mb]? = _ := hx
        rw [hy] at hx; cases hx)
      have h6 := (h4.below hb5).keepG hg6 (fun g e cur hx => by
        obtain ⟨_, cur2, hy⟩ := own_blk ho5 e
        rw [hy] at hx; cases hx)
      have h7 := h6.keepG hg7 (fun g e cur hx => by
        have e : hb = g := by simpa using e
        subst e
        rw [HH6.out] at hx; cases hx)
      exact h7.base HB1S.out
    have hrevs4 : RevsAt 85 w4 D M := by
      have h2 := HH.out.revs.below HB12.out
      have h3 : RevsAt 85 w3 D M := h2.keep fun g cur hx => HG3.out.block g (Array.getElem?_eq_some_iff.1 hx).1 (fun e => by
        have e : g = hb := by simpa using e
        subst e
        rw [HH2.out] at hx; cases hx)
      exact h3.keep fun g cur hx => HN.out.grown.block g (Array.getElem?_eq_some_iff.1 hx).1 (fun e => by
        have e : g = mb := by simpa using e
        subst e
        obtain ⟨es, ck, hy⟩ := (HMAP3.out : MapAt w3 g k D).block
        rw [hy] at hx; cases hx)
    have hrevs7 : RevsAt 85 w7 (laidS D w3.heap.size (L.map fun x => x.p.data.toList) L.length) (fun s => if s ∈ (L.map fun x => x.p.data.toList) then n + 1 else M s) := by
      refine (HN.out.revs hrevs4 HH.out.map.isMap).keep fun g cur hx => hq7 g (Array.getElem?_eq_some_iff.1 hx).1 (fun e => ?_) (fun g2 e e2 => ?_)
      · subst e
        rw [HH4.out] at hx; cases hx
      · subst e2
        obtain ⟨_, cur2, hy⟩ := own_blk HO4.out e
        rw [hy] at hx; cases hx
    have hkr7 : KeepR w4 w7 := fun g cur t ht _ hx => hq7 g (Array.getElem?_eq_some_iff.1 hx).1 (fun e => by
        subst e
        rw [HH4.out] at hx; cases hx; revert ht; decide) (fun g2 e e2 => by
        subst e2
        obtain ⟨_, cur2, hy⟩ := own_blk HO4.out e
        rw [hy] at hx; cases hx; revert ht; decide)
    have hkr4 : KeepR w w4 := by
      refine (KeepR.below HB12.out).trans (KeepR.trans (KeepR.grown HG3.out (fun g cur t e ht _ hx => ?_)) (KeepR.grown (w := w3.drew) HN.out.grown (fun g cur t e ht _ hx => ?_)))
      · have e : hb = g := by simpa using e
        subst e
        rw [HH2.out] at hx; cases hx; revert ht; decide
      · have e : mb = g := by simpa using e
        subst e
        obtain ⟨es, ck, hy⟩ := (HMAP3.out : MapAt w3 mb k D).block
        have hx : w3.heap[mb]? = _ := hx
        rw [hy] at hx; cases hx
    have hkm7 : KeepM mb w4 w7 := fun g es ck _ hx => hq7 g (Array.getElem?_eq_some_iff.1 hx).1 (fun e => by
        subst e
        rw [HH4.out] at hx; cases hx) (fun g2 e e2 => by
        subst e2
        obtain ⟨_, cur2, hy⟩ := own_blk HO4.out e
        rw [hy] at hx; cases hx)
    have hkm4 : KeepM mb w w4 := (KeepM.below HB12.out).trans (KeepM.trans (KeepM.grown HG3.out (fun g e => by
        have e : hb = g := by simpa using e
        subst e
        exact .inr ⟨_, _, _, HH2.out⟩)) (KeepM.grown (w := w3.drew) HN.out.grown (fun g e => .inl (by simpa using e.symm))))
    have hfull7 : RevsF w7 ((w3.heap.size, L) :: H) (laidS D w3.heap.size (L.map fun x => x.p.data.toList) L.length) :=
      ⟨D, HH.out.full.keep (hkr4.trans hkr7), by rw [HH.out.num]; exact HN.out.rev.keep hkr7, rfl⟩
    have hnum7 : ((w3.heap.size, L) :: H).length = n + 1 + 1 := by rw [List.length_cons, HH.out.num]
    have hown7 := HO6.out.kept hg7 (by
      cases e : (Value.slice A6 (n + 1) c6).ownBlock with
      | none => exact .inl rfl
      | some g =>
        refine .inr fun e2 => ?_
        have e2 : g = hb := by simpa using e2
        subst e2
        obtain ⟨_, cur2, hy⟩ := own_blk HO6.out e
        rw [HH6.out] at hy; cases hy)
    have hcom7 : w7.ownsRow w0.heap.size 75 1 (.slice A6 (n + 1) c6) (n + 1) (rowsV ((w3.heap.size, L) :: H)) := by
      have e : rowsV ((w3.heap.size, L) :: H) = rows ++ [.slice (some ⟨w3.heap.size, 0, none⟩) L.length L.length] := by
        rw [← HRV.out]
        have hne : H ≠ [] := fun e => by have := HH.out.num; rw [e] at this; simp at this
        unfold rowsV
        rw [List.dropLast_cons_of_ne_nil hne]
        simp
      rw [e]; exact hown7
    have hbz : Below w0.heap.size w w7 := by
      have hl := HH.out.lb
      have hlm := HH.out.lm
      have hbs := HBS.out
      have h34 : w3.heap.size ≤ w4.heap.size := HN.out.grown.size
      refine HB03.out.trans ⟨?_, ?_, ?_, ?_, fun q hq => ?_⟩
      · exact hg7.os.trans (hg6.os.trans (hb5.os.trans HN.out.grown.os))
      · exact hg7.tape.trans (hg6.tape.trans (hb5.tape.trans HN.out.grown.tape))
      · exact hg7.output.trans (hg6.output.trans (hb5.output.trans HN.out.grown.output))
      · have := hb5.size; have := hg6.size; have := hg7.size; omega
      · have h1 : w4.heap[q]? = w3.heap[q]? := HN.out.grown.block q (show q < w3.heap.size by omega) (fun e => by
          have e : q = mb := by simpa using e
          omega)
        rw [hq7 q (by omega) (by omega) (fun g e e2 => by have := (own_blk HO4.out e).1; omega), h1]
    have hle7 : ∀ s : Bs, (if s ∈ (L.map fun x => x.p.data.toList) then n + 1 else M s) ≤ n + 1 := fun s => by
      have h1 : M s ≤ n := HH.out.le s
      split
      · exact Nat.le_refl _
      · omega
    have hroom7 : k + L.length ≤ 10000 * (n + 1 + 1) := by
      have h1 : k ≤ 10000 * (n + 1) := HH.out.room
      have h2 : L.length ≤ 10000 := HSD.out.1
      omega
    have HFR := Lib.hid (show FarN w w7 w3.heap.size L.length L from fun j x hj hx => by
      obtain ⟨A', c', h1, h2⟩ := HFN.out j x hj hx
      obtain ⟨cur, hcb, _⟩ := HN.out.blk
      exact ⟨A', c', (World.cell?_of_block (a := ⟨w3.heap.size, j * 5 + 2, none⟩) (hkr7 w3.heap.size _ _ (by decide) hcb)).trans h1, h2.le HB03.out.size⟩)
    have HFIN := Lib.hid (⟨hh7, hnames7.base (Nat.zero_le _), by rw [bareX_fls]; exact bareT_right HRT.out, bareX_bare, hcom7, hnum7, hfull7, (fun y hy => by
      rcases List.mem_cons.1 hy with rfl | hy
      · exact HSD.out
      · exact HH.out.sm y hy), hmap7, hroom7, hrevs7, hle7, HH.out.lb, HH.out.lm⟩ : HistAt w0.heap.size w7 hb (n + 1) (bareX l') (fun s => if s ∈ (L.map fun x => x.p.data.toList) then n + 1 else M s) (Value.slice Av (bareX l').length cv') (.slice A6 (n + 1) c6) mb (k + L.length) _ ((w3.heap.size, L) :: H))
    have HBZ := Lib.hid hbz
    have HKR := Lib.hid (hkr4.trans hkr7)
    have HKM := Lib.hid (hkm4.trans hkm7)
    have c7 := cell_of_row w7 hb 1 _ _ _ hh7
    have HHEAD7 := Lib.hid (hhead_any hb A6 (n + 1) c6 w7 c7)
    clear hw7 hh7 hg7 hW5 hb5 hg6 ho5 hq7 hmb4 hmap7 hnames7 hrevs4 hrevs7 hown7 hbz c7
    go_wp2_with fail
    refine HHEAD7.out.mono ?_
    rintro e w9 ⟨rfl, hw9⟩
    have hw9 := hw9.symm
    subst hw9
    go_wp2_with fail
    go_ret2
    exact .inr ⟨_, _, _, _, _, _, _, HNEL.out, ⟨f, HAP.out, by rw [bareX_fls, HFL.out]⟩, rfl, HFIN.out, HBZ.out, HKR.out, HKM.out, rfl, HFR.out⟩
end Go.Proofs.YtffhfllikamccaaGreatDoor
namespace Go.Proofs.YtffhfllikamccaaGreatDoor
open Go Go.RowKit Go.Shelf Go.Proofs Go.ChangeMaps Go.Maps Go.WideMaps
attribute [local go_sem] Oper.semAt_some

def valsQ (b : Bs) : List Value := (numsB b).map fun n => .int .u8 n
theorem valsQ_length (b : Bs) : (valsQ b).length = b.length := by unfold valsQ; rw [List.length_map, numsB_length]
theorem u8_infoQ : (Tryz.prog.info? 5).map (fun i => (i.zero, i.size, i.bytes)) = some (some (.int .u8 0), 1, 1) := by kernel_rfl
theorem own_bytesQ {base : Nat} {w : World} {v : Value} {b : Bs} (h : w.ownsRow base 5 1 v b.length (valsQ b)) : ∃ A c, v = .slice A b.length c ∧ BytesOwn w A b ∧ FarH base A := by
  rcases h.2 with ⟨rfl, hn⟩ | ⟨g, cap, cur, rfl, hgb, hh, _⟩
  · obtain rfl := List.eq_nil_of_length_eq_zero hn
    exact ⟨none, 0, rfl, BytesOwn.nil _ _, fun a e => by cases e⟩
  · refine ⟨some ⟨g, 0, none⟩, cap, rfl, fun _ => ⟨g, cur, rfl, hh, fun i hi => ?_⟩, fun a e => by cases e; exact hgb⟩
    have := World.ownsRow.cells h (g := g) rfl i (.int .u8 ((numsB b).getD i 0)) (by
      unfold valsQ
      rw [List.getElem?_map]
      have hl' : i < (numsB b).length := by rw [numsB_length]; exact hi
      simp [List.getD, List.getElem?_eq_getElem hl'])
    rw [Go.WideShapes.add_plain, Nat.zero_add] at this
    exact this
theorem vals_oneQ (b : Bs) : ∀ u ∈ valsQ b, u.oneCell' = true := fun u hu => by
  unfold valsQ at hu
  obtain ⟨y, _, rfl⟩ := List.mem_map.1 hu; rfl
theorem wp_appQ {base : Nat} {w : World} {A : Option Addr} {c : Nat} {b : Bs} {o : Oper} {a : Act} {K : Act → World → Prop} {Q : Exit → Act → World → Prop} (s x : Operand)
    (ho : o.op = .call { callee := .builtin .append, args := #[s, x], argTypes := #[60, 60] }) (hs : a.eval s = .slice none 0 0)
    (hx : a.eval x = .slice A b.length c) (hb : BytesAt w A b) (hbc : b.length ≤ c) (hnil : A = none → c = 0) (hlen : b.length ≤ 1000000) (hbase : base ≤ w.heap.size)
    (h : ∀ v' w', w'.ownsRow base 5 1 v' b.length (valsQ b) → w.grownBy w' none → K (a.put o.dst v') w') : Oper.wp Tryz.prog o a w K Q := by
  obtain ⟨i0, hi, hz0, hz1, hz2⟩ := info_parts u8_infoQ
  cases A with
  | none =>
    have hc := hnil rfl
    have hn : b = [] := by
      cases b with
      | nil => rfl
      | cons x r => rw [hc] at hbc; simp at hbc
    subst hn hc
    have hr := run_append_owned_none (P := Tryz.prog) (w := w) base 60 o.type 5 i0 1 Tryz.underlying60 hi (.slice none 0 0) 0 [] (World.ownsRow_nil _ _ _ _)
    unfold Oper.wp execOp
    have hx : a.eval x = .slice none 0 0 := hx
    simp only [ho, resolve, invoke, builtin, Sem.run_bind, Sem.run_pure, Result.andThen_ok, List.map_toArray, List.map_cons, List.map_nil, hs, hx, hr]
    exact h _ w (World.ownsRow_nil _ _ _ _) ⟨rfl, rfl, rfl, Nat.le_refl _, fun _ _ _ => rfl⟩
  | some ad =>
    obtain ⟨g, o', s'⟩ := ad
    refine wp_append_own w s x 60 ho base 5 i0 (.int .u8 0) 1 1 Tryz.underlying60 hi hz0 hz1 hz2 rfl (by decide) (.slice none 0 0) 0 [] hs (World.ownsRow_nil _ _ _ _) ⟨g, o', s'⟩ b.length c (valsQ b) hx (by rw [valsQ_length, Nat.mul_one])
      (fun j u hu => ?_) (vals_oneQ b) (by unfold maxLen; omega) (by omega) hbase fun v' w' h1 h2 _ => h v' w' (by simpa using h1) h2
    unfold valsQ at hu
    rw [List.getElem?_map] at hu
    obtain ⟨y, hy, rfl⟩ := Option.map_eq_some_iff.1 hu
    have hj : j < b.length := by have := (List.getElem?_eq_some_iff.1 hy).1; rwa [numsB_length] at this
    obtain ⟨g', o2, e', hc'⟩ := hb (by omega)
    cases e'
    rw [Go.WideShapes.add_plain, hc' j hj, List.getD_eq_getElem?_getD, hy]; rfl
theorem wpList_appQ {base : Nat} {w : World} {A : Option Addr} {c : Nat} {b : Bs} {ops : Array Oper} {rest : List Oper} {o : Oper} {a : Act} {Q : Exit → Act → World → Prop} (hgd : o.guard = none) (s x : Operand)
    (ho : o.op = .call { callee := .builtin .append, args := #[s, x], argTypes := #[60, 60] }) (hs : a.eval s = .slice none 0 0)
    (hx : a.eval x = .slice A b.length c) (hb : BytesAt w A b) (hbc : b.length ≤ c) (hnil : A = none → c = 0) (hlen : b.length ≤ 1000000) (hbase : base ≤ w.heap.size)
    (h : ∀ v' w', w'.ownsRow base 5 1 v' b.length (valsQ b) → w.grownBy w' none → wpList Tryz.prog ops Q rest (a.put o.dst v') w') : wpList Tryz.prog ops Q (o :: rest) a w :=
  wpList_plain hgd fun _ hK => wp_appQ s x ho hs hx hb hbc hnil hlen hbase fun v' w' h2 h3 => hK _ _ (h v' w' h2 h3)
end Go.Proofs.YtffhfllikamccaaGreatDoor
