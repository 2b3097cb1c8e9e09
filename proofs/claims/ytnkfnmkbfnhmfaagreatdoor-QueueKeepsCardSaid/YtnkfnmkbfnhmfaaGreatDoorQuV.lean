/-
  The queue's own once more: its changes, and bytes, lie in new blocks. (gen_qufar.py, out of XQuOwn) · The queue's Submit once more: the request's own changes lie in new blocks. (gen_qufar.py, out of XQuSubmit) · The document's own Copy of bytes: new ones, in a block of their own. · The law QueueKeeps, walked. (gen_qukeep.py)
-/
import Derived.Test.YtnkfnmkbfnhmfaaGreatDoorQuJ
import Derived.Laws.AppendOwn
import Derived.Laws.OwnMore
import Derived.OwnWalkIn
import Derived.Test.YtnkfnmkbfnhmfaaGreatDoorQuZ
import Derived.Test.YtnkfnmkbfnhmfaaGreatDoorGZ
import Derived.Test.YtnkfnmkbfnhmfaaGreatDoorGS
import Derived.Laws.World
namespace Go.Proofs.YtnkfnmkbfnhmfaaGreatDoor
open Go Go.RowKit Go.Shelf Go.Proofs Go.ChangeMaps Go.Maps Go.WideMaps
attribute [local go_sem] Oper.semAt_some

def FarA (base : Nat) (A : Option Addr) : Prop := ∀ a, A = some a → base ≤ a.block
theorem FarA.le {b b' : Nat} {A : Option Addr} (h : FarA b' A) (hb : b ≤ b') : FarA b A := fun a e => Nat.le_trans hb (h a e)
def FarK (base k : Nat) (m : List DX) : Prop := ∀ j x, j < k → m[j]? = some x → FarA base x.A
theorem FarK.next {base k : Nat} {m : List DX} {x : DX} {A' : Option Addr} {c' : Nat} (h : FarK base k m) (hk : k < m.length) (ha : FarA base A') : FarK base (k + 1) (m.set k { x with A := A', c := c' }) := fun j y hj hy => by
  by_cases e : j = k
  · subst e
    rw [List.getElem?_set_self hk] at hy
    cases hy
    exact ha
  · rw [List.getElem?_set_ne (by omega)] at hy
    exact h j y (by omega) hy
theorem bclone_far (A : Option Addr) (c : Nat) (b : Bs) (w : World) (h : BytesAt w A b) (hl : b.length ≤ 1000000) :
    Calls Tryz.prog 45 #[.slice A b.length c] w fun e w' => ∃ (A' : Option Addr) (c' : Nat), e = .returned (.slice A' b.length c') ∧ BytesOwn w' A' b ∧ Below w.heap.size w w' ∧ FarA w.heap.size A' := by
  cases A with
  | none =>
    have hn : b = [] := by
      cases b with
      | nil => rfl
      | cons x r => obtain ⟨g, o, e, _⟩ := h (by simp); cases e
    subst hn
    refine (Tryz.bytes_Clone_nil _ _ w).mono ?_
    rintro e w' ⟨rfl, rfl⟩
    exact ⟨none, 0, rfl, BytesOwn.nil _ _, Below.refl _ _, fun a e => by cases e⟩
  | some a =>
    refine (Tryz.bytes_Clone_at a b.length c (numsB b) w (numsB_length b) (by omega) (fun i hi => ?_)).mono ?_
    · obtain ⟨g, o, e, hc⟩ := h (by omega)
      cases e
      rw [Go.WideShapes.add_plain]
      exact hc i hi
    · rintro e w' ⟨v', rfl, hown, _, hb⟩
      rcases hown.2 with ⟨rfl, hn⟩ | ⟨g, cap, cur, rfl, hgb, hh, _, _, _, _⟩
      · have : b = [] := List.eq_nil_of_length_eq_zero hn
        subst this
        exact ⟨none, 0, rfl, BytesOwn.nil _ _, hb, fun a e => by cases e⟩
      · refine ⟨some ⟨g, 0, none⟩, cap, rfl, fun _ => ⟨g, cur, rfl, hh, fun i hi => ?_⟩, hb, fun a e => by cases e; exact hgb⟩
        have := hown.cells (g := g) rfl i (.int .u8 ((numsB b).getD i 0)) (by
          rw [List.getElem?_map]
          have hl' : i < (numsB b).length := by rw [numsB_length]; exact hi
          simp [List.getD, List.getElem?_eq_getElem hl'])
        rw [Go.WideShapes.add_plain, Nat.zero_add] at this
        exact this
set_option maxRecDepth 100000 in
set_option maxHeartbeats 8000000 in
theorem qownF_any (x : QX) (w : World) (h : DelsAt w x.A x.c x.l) (hs : SmallD x.l) (h0 : 0 < x.l.length) :
    Calls Tryz.prog 53 #[x.v] w fun e w' => ∃ y : QX, e = .returned y.v ∧ y.id = x.id ∧ y.base = x.base ∧ y.l.map DX.dl = x.l.map DX.dl ∧ DeltasAt w.heap.size w' (.slice y.A y.l.length y.c) y.l ∧ Below w.heap.size w w' ∧ FarK w.heap.size y.l.length y.l := by
  obtain ⟨id, bs, A, c, l⟩ := x
  unfold QX.v
  simp only at h hs h0
  obtain ⟨n, hn⟩ : ∃ n, l.length = n := ⟨_, rfl⟩
  obtain ⟨b1, hb1⟩ : ∃ b, w.heap.size = b := ⟨_, rfl⟩
  obtain ⟨W1, hW1⟩ : ∃ W, w.alloc (.cells #[.int .i64 id, .int .i64 bs, .slice A n c] 52) = W := ⟨_, rfl⟩
  have s1 : W1.heap.size = b1 + 1 := by rw [← hW1, ← hb1]; simp
  obtain ⟨W2, hW2⟩ : ∃ W, W1.alloc (.cells #[.int .i64 0, .int .i64 0, .slice none 0 0] 52) = W := ⟨_, rfl⟩
  have s2 : W2.heap.size = b1 + 2 := by rw [← hW2]; simp [s1]
  have g1 : W2.heap[b1]? = some (.cells #[.int .i64 id, .int .i64 bs, .slice A n c] 52 (0, 0)) := by
    rw [← hW2]
    refine (Below.heap_alloc _ _ _ (by omega)).trans ?_
    rw [← hW1, ← hb1]; exact heap_alloc_new _ _
  have g2 : W2.heap[b1 + 1]? = some (.cells #[.int .i64 0, .int .i64 0, .slice none 0 0] 52 (0, 0)) := by rw [← hW2, ← s1]; exact heap_alloc_new _ _
  have hb2 : Below w.heap.size w W2 := by rw [← hW2, ← hW1]; exact ((Below.refl _ _).alloc (Nat.le_refl _) _).alloc (by simp) _
  have hcl := dclone_any l A c W2 (h.below hb2) (by have := hs.1; omega) h0
  rw [hn] at hcl
  have HCL := Lib.hid hcl
  have HS := Lib.hid hs
  have HB := Lib.hid (fun (y : DX) (hy : y ∈ l) => h.bytes y hy)
  have HN := Lib.hid hn
  have HG2 := Lib.hid g2
  have HB2 := Lib.hid hb2
  have HG1 := Lib.hid g1
  have HW1 := Lib.hid hW1
  have HW2 := Lib.hid hW2
  have HB1 := Lib.hid hb1
  have HS2 := Lib.hid s2
  have c2 := cell_of_row W2 b1 2 _ _ _ g1
  simp only [List.getElem?_toArray, List.getElem?_cons_zero, List.getElem?_cons_succ] at c2
  rw [hn] at h0
  clear h hs hcl g2 hb2 g1 hW1 hW2 hb1
  rw [hn]
  go_enter Tryz.func53, Tryz.ntmps53
  go_upto_region 1 with fail
  rw [HB1.out, HW1.out, HW2.out]
  go_wp2_with fail
  refine HCL.out.mono ?_
  rintro e w3 ⟨v3, rfl, ho3, hb3⟩
  obtain ⟨g, c1, rfl, hg3, hcc⟩ : ∃ g c1, v3 = .slice (some ⟨g, 0, none⟩) n c1 ∧ W2.heap.size ≤ g ∧ True := by
    rcases ho3.2 with ⟨_, e⟩ | ⟨g, cap, cur, e, hbg, _⟩
    · omega
    · exact ⟨g, cap, e, hbg, trivial⟩
  have g13 := (hb3.block b1 (by rw [HS2.out]; omega)).trans HG1.out
  have g23 := (hb3.block (b1 + 1) (by rw [HS2.out]; omega)).trans HG2.out
  have e2 : w3.cell? ⟨b1, 2, none⟩ = some (.slice A n c) := cell_of_row w3 b1 2 _ _ _ g13
  have f2 : w3.frozen? ⟨b1, 2, none⟩ = false := frozen_of_row w3 b1 2 _ _ g13
  have hS2 := HS2.out
  have hgb : g ≠ b1 := by omega
  have hgb2 : g ≠ b1 + 1 := by omega
  obtain ⟨W4, hW4⟩ : ∃ W, w3.setCell ⟨b1, 2, none⟩ (.slice (some ⟨g, 0, none⟩) n c1) = W := ⟨_, rfl⟩
  have o4 : ∀ j, j ≠ b1 → W4.heap[j]? = w3.heap[j]? := fun j hj => by rw [← hW4]; exact heap_setCell_other w3 ⟨b1, 2, none⟩ j _ hj
  have g14 : W4.heap[b1]? = some (.cells #[.int .i64 id, .int .i64 bs, .slice (some ⟨g, 0, none⟩) n c1] 52 (0, 0)) := by rw [← hW4]; exact heap_setCell_same w3 b1 2 _ _ _ g13
  have g24 := (o4 (b1 + 1) (by omega)).trans g23
  have ho4 : W4.ownsRow (b1 + 2) 81 3 (.slice (some ⟨g, 0, none⟩) n c1) n (dcells l) := by
    rw [← hS2]
    exact ⟨ho3.1, ho3.2.imp (fun h => h) fun ⟨g', cap, cur, hv, hb, hg, r⟩ => ⟨g', cap, cur, hv, hb, (o4 g' (by omega)).trans hg, r⟩⟩
  have hs4 : w3.heap.size = W4.heap.size := by rw [← hW4]; simp [World.setCell]
  have hb4 : Below w.heap.size w W4 := by
    rw [← hW4]
    exact (HB2.out.trans (hb3.mono HB2.out.size)).setCell (p := ⟨b1, 2, none⟩) (by rw [HB1.out]; exact Nat.le_refl _) _
  have hsz3 := hb3.size
  have HW4 := Lib.hid hW4
  have HI0 := Lib.hid (show QOwn (b1 + 2) l (.slice (some ⟨g, 0, none⟩) n c1) W4 0 W4 l from ⟨by rw [HN.out]; exact ho4, rfl, rfl, rfl, fun j x hj => absurd hj (Nat.not_lt_zero _), Below.refl _ _⟩)
  have HG4 := Lib.hid g14
  have HG24 := Lib.hid g24
  have HB4 := Lib.hid hb4
  have hnm : n ≤ 10000 := by have := HS.out.1; rw [HN.out] at this; exact this
  clear ho3 hb3 g13 g23 o4 g14 g24 ho4 hb4 hW4 c2
  go_upto_region 2 with fail
  rw [HW4.out]
  have cb0 : W4.cell? ⟨b1, 2, none⟩ = some (.slice (some ⟨g, 0, none⟩) n c1) := cell_of_row W4 b1 2 _ _ _ HG4.out
  go_wp2_with fail
  clear cb0
  go_loopw [3, 11] (fun _ s11 wr => ∃ (k : Nat) (m : List DX), k ≤ n ∧ s11 = .int .i64 k ∧ Hid (QOwn (b1 + 2) l (.slice (some ⟨g, 0, none⟩) n c1) W4 k wr m) ∧ Hid (FarK b1 k m)) (fun _ s11 _ => n - (intOf s11).toNat)
  case atStart => exact ⟨0, l, Nat.zero_le _, rfl, HI0.out, Lib.hid (fun j x h => absurd h (Nat.not_lt_zero _))⟩
  case round =>
    obtain ⟨k, m, hk, rfl, HI, HFK⟩ := hrel
    have hml : m.length = n := HI.out.len.trans HN.out
    by_cases hlt : k < n
    · obtain ⟨x, hx⟩ : ∃ x, m[k]? = some x := ⟨_, List.getElem?_eq_getElem (by rw [hml]; exact hlt)⟩
      have hlx : l[k]? = some x := by rw [← List.head?_drop, ← HI.out.rest, List.head?_drop, hx]
      have hbr := HI.out.bel
      have hb1l : b1 < wr.heap.size := by have := hbr.size; omega
      have cb : wr.cell? ⟨b1, 2, none⟩ = some (.slice (some ⟨g, 0, none⟩) n c1) := cell_of_row wr b1 2 _ _ _ ((hbr.block b1 (by omega)).trans HG4.out)
      have hown := HI.out.own
      rw [hml] at hown
      obtain ⟨_, cur, hgc⟩ := rowT_ge hown (g := g) rfl
      have ck : wr.cell? ⟨g, k * 3 + 2, none⟩ = some (.slice x.A x.b.length x.c) := by
        have := World.ownsRow.cells hown (g := g) rfl _ _ (dcells_at m k x hx).2.2
        rwa [Go.WideShapes.add_plain, Nat.zero_add] at this
      have fk : wr.frozen? ⟨g, k * 3 + 2, none⟩ = false := frozen_of_row wr g _ _ _ hgc
      have hgl : g < wr.heap.size := (Array.getElem?_eq_some_iff.1 hgc).1
      have hxm := List.mem_of_getElem? hlx
      have hbw := HB4.out.trans (hbr.mono (by rw [HB1.out]; omega))
      have hxb : BytesAt wr x.A x.b := (HB.out x hxm).below hbw
      have HC := bclone_far x.A x.c x.b wr.drew (hxb.below (Below.refl _ _).drew) (HS.out.2 x hxm).2
      obtain ⟨nb, hnb⟩ : ∃ nb, x.b.length = nb := ⟨_, rfl⟩
      obtain ⟨xA, hxA⟩ : ∃ A, x.A = A := ⟨_, rfl⟩
      obtain ⟨xc, hxc⟩ : ∃ c, x.c = c := ⟨_, rfl⟩
      rw [hxA, hxc, hnb] at ck
      rw [hxA, hxc] at HC
      rw [hnb] at HC
      have HC := Lib.hid HC
      have HNB := Lib.hid hnb
      have q1 : (k : Int) < (n : Int) := by omega
      have HX := Lib.hid hx
      have HML := Lib.hid hml
      have hb2l : b1 + 2 ≤ wr.heap.size := by have := hbr.size; omega
      have hHeld := (show _ ∧ _ from ⟨cb, ck⟩)
      clear hx hlx hbr hown hgc hxm hbw hxb hnb hxA hxc hml
      go_wp2_with fail
      refine wp_region_last (fun w' => w'.cell? ⟨b1, 2, none⟩ = some (.slice (some ⟨g, 0, none⟩) n c1) ∧ w'.cell? ⟨g, k * 3 + 2, none⟩ = some (.slice xA nb xc)) 12 (by kernel_rfl) ?_
      refine wpAnyL_take (i := 0) (v := ?vu0) rfl (by kernel_rfl) (by kernel_rfl) (by kernel_rfl) (by kernel_rfl) (by kernel_rfl) (fun _ _ _ h => h) hHeld (Or.inl ⟨by rfl, ?yu0⟩) ?ru0
      case yu0 =>
        intro w hSw
        (try dsimp only at hSw)
        go_simp
        first | done | with_reducible rfl
      try simp only [Act.put, List.getElem_toArray, List.getElem_cons_zero, List.setIfInBounds_toArray, List.set_cons_zero, List.set_cons_succ]
      refine wpAnyL_take (i := 1) (v := ?vu1) rfl (by kernel_rfl) (by kernel_rfl) (by kernel_rfl) (by kernel_rfl) (by kernel_rfl) (fun _ _ _ h => h) hHeld (Or.inl ⟨by rfl, ?yu1⟩) ?ru1
      case yu1 =>
        intro w hSw
        (try dsimp only at hSw)
        go_simp
        first | done | with_reducible rfl
      try simp only [Act.put, List.getElem_toArray, List.getElem_cons_zero, List.getElem_cons_succ, List.setIfInBounds_toArray, List.set_cons_zero, List.set_cons_succ]
      refine wpAnyL_take (i := 2) (v := ?vu2) rfl (by kernel_rfl) (by kernel_rfl) (by kernel_rfl) (by kernel_rfl) (by kernel_rfl) (fun _ _ _ h => h) hHeld (Or.inl ⟨by rfl, ?yu2⟩) ?ru2
      case yu2 =>
        intro w hSw
        (try dsimp only at hSw)
        go_simp
        first | done | with_reducible rfl
      try simp only [Act.put, List.getElem_toArray, List.getElem_cons_zero, List.getElem_cons_succ, List.setIfInBounds_toArray, List.set_cons_zero, List.set_cons_succ]
      refine wpAnyL_take (i := 3) (v := ?vu3) rfl (by kernel_rfl) (by kernel_rfl) (by kernel_rfl) (by kernel_rfl) (by kernel_rfl) (fun _ _ _ h => h) hHeld (Or.inl ⟨by rfl, ?yu3⟩) ?ru3
      case yu3 =>
        intro w hSw
        (try dsimp only at hSw)
        go_simp
        first | done | with_reducible rfl
      try simp only [Act.put, List.getElem_toArray, List.getElem_cons_zero, List.getElem_cons_succ, List.setIfInBounds_toArray, List.set_cons_zero, List.set_cons_succ]
      refine wpAnyL_take (i := 4) (v := ?vu4) rfl (by kernel_rfl) (by kernel_rfl) (by kernel_rfl) (by kernel_rfl) (by kernel_rfl) (fun _ _ _ h => h) hHeld (Or.inl ⟨by rfl, ?yu4⟩) ?ru4
      case yu4 =>
        intro w hSw
        (try dsimp only at hSw)
        go_simp
        first | done | with_reducible rfl
      try simp only [Act.put, List.getElem_toArray, List.getElem_cons_zero, List.getElem_cons_succ, List.setIfInBounds_toArray, List.set_cons_zero, List.set_cons_succ]
      refine wpAnyL_take (i := 5) (v := ?vu5) rfl (by kernel_rfl) (by kernel_rfl) (by kernel_rfl) (by kernel_rfl) (by kernel_rfl) (fun _ _ _ h => h) hHeld (Or.inl ⟨by rfl, ?yu5⟩) ?ru5
      case yu5 =>
        intro w hSw
        (try dsimp only at hSw)
        go_simp
        first | done | with_reducible rfl
      try simp only [Act.put, List.getElem_toArray, List.getElem_cons_zero, List.getElem_cons_succ, List.setIfInBounds_toArray, List.set_cons_zero, List.set_cons_succ]
      refine wpAnyL_take (i := 6) (v := ?vu6) rfl (by kernel_rfl) (by kernel_rfl) (by kernel_rfl) (by kernel_rfl) (by kernel_rfl) (fun _ _ _ h => h) hHeld (Or.inl ⟨by rfl, ?yu6⟩) ?ru6
      case yu6 =>
        intro w hSw
        (try dsimp only at hSw)
        go_simp
        first | done | with_reducible rfl
      try simp only [Act.put, List.getElem_toArray, List.getElem_cons_zero, List.getElem_cons_succ, List.setIfInBounds_toArray, List.set_cons_zero, List.set_cons_succ]
      refine wpAnyL_take (i := 7) (v := ?vu7) rfl (by kernel_rfl) (by kernel_rfl) (by kernel_rfl) (by kernel_rfl) (by kernel_rfl) (fun _ _ _ h => h) hHeld (Or.inl ⟨by rfl, ?yu7⟩) ?ru7
      case yu7 =>
        intro w hSw
        (try dsimp only at hSw)
        go_simp
        first | done | with_reducible rfl
      try simp only [Act.put, List.getElem_toArray, List.getElem_cons_zero, List.getElem_cons_succ, List.setIfInBounds_toArray, List.set_cons_zero, List.set_cons_succ]
      refine wpAnyL_take (i := 8) (v := ?vu8) rfl (by kernel_rfl) (by kernel_rfl) (by kernel_rfl) (by kernel_rfl) (by kernel_rfl) (fun _ _ _ h => h) hHeld (Or.inl ⟨by rfl, ?yu8⟩) ?ru8
      case yu8 =>
        intro w hSw
        (try dsimp only at hSw)
        go_simp
        first | done | with_reducible rfl
      try simp only [Act.put, List.getElem_toArray, List.getElem_cons_zero, List.getElem_cons_succ, List.setIfInBounds_toArray, List.set_cons_zero, List.set_cons_succ]
      refine wpAnyL_one (i := 9) (by kernel_rfl) rfl rfl (fun K hK => ?_)
      go_simp
      refine HC.out.mono ?_
      rintro e w2 ⟨A', c', rfl, ho, hb2, hfar⟩
      have HFR := Lib.hid (hfar.le (show b1 ≤ wr.drew.heap.size by show b1 ≤ wr.heap.size; omega))
      clear hfar
      have hbd := (Below.refl wr.heap.size wr).drew.trans hb2
      have e1 := (hbd.cell (p := ⟨b1, 2, none⟩) hb1l).trans cb
      have e2 := (hbd.cell (p := ⟨g, k * 3 + 2, none⟩) hgl).trans ck
      have e3 := (hbd.frozen (p := ⟨g, k * 3 + 2, none⟩) hgl).trans fk
      have HO := Lib.hid ho
      have HB2 := Lib.hid hbd
      have hHeld := (show _ ∧ _ from ⟨e1, e2⟩)
      clear ho hb2 hbd
      refine hK.out _ _ (fun _ => hHeld) ?_
      clear hK K
      try simp only [Act.put, List.getElem_toArray, List.getElem_cons_zero, List.getElem_cons_succ, List.setIfInBounds_toArray, List.set_cons_zero, List.set_cons_succ]
      refine wpAnyL_one (i := 10) (by kernel_rfl) rfl rfl (fun K hK => ?_)
      go_simp
      refine hK.out _ _ (fun _ => hHeld) ?_
      clear hK K
      try simp only [Act.put, List.getElem_toArray, List.getElem_cons_zero, List.getElem_cons_succ, List.setIfInBounds_toArray, List.set_cons_zero, List.set_cons_succ]
      refine wpAnyL_take (i := 11) (v := ?vu11) rfl (by kernel_rfl) (by kernel_rfl) (by kernel_rfl) (by kernel_rfl) (by kernel_rfl) (fun _ _ _ h => h) hHeld (Or.inl ⟨by rfl, ?yu11⟩) ?ru11
      case yu11 =>
        intro w hSw
        (try dsimp only at hSw)
        go_simp
        first | done | with_reducible rfl
      try simp only [Act.put, List.getElem_toArray, List.getElem_cons_zero, List.getElem_cons_succ, List.setIfInBounds_toArray, List.set_cons_zero, List.set_cons_succ]
      refine wpAnyL_one (i := 12) (by kernel_rfl) rfl rfl (fun K hK => ?_)
      go_simp
      refine hK.out _ _ (fun h => absurd rfl h) ?_
      clear hK K
      try simp only [Act.put, List.getElem_toArray, List.getElem_cons_zero, List.getElem_cons_succ, List.setIfInBounds_toArray, List.set_cons_zero, List.set_cons_succ]
      refine wpAnyL_done (by kernel_rfl) ?_ _
      go_wp2_with fail
      go_roundw
      case rel =>
        refine ⟨k + 1, m.set k { x with A := A', c := c' }, by omega, by go_num, ?_, Lib.hid (HFK.out.next (by rw [HML.out]; exact hlt) HFR.out)⟩
        have := HI.out.next (c' := c') (by rw [HML.out]) HX.out HB2.out HO.out hb2l
        rw [HNB.out] at this
        exact this
      case measure => simp [intOf]; omega
    · obtain rfl : k = n := by omega
      have hbr := HI.out.bel
      have cb := (hbr.block b1 (by omega)).trans HG4.out
      have cr := (hbr.block (b1 + 1) (by omega)).trans HG24.out
      have hbw := HB4.out.trans (hbr.mono (by rw [HB1.out]; omega))
      have x0 := cell_of_row wr b1 0 _ _ _ cb
      have x1 := cell_of_row wr b1 1 _ _ _ cb
      have x2 := cell_of_row wr b1 2 _ _ _ cb
      have d0 := cell_of_row wr (b1 + 1) 0 _ _ _ cr
      have d1 := cell_of_row wr (b1 + 1) 1 _ _ _ cr
      have d2 := cell_of_row wr (b1 + 1) 2 _ _ _ cr
      have f0 : wr.frozen? ⟨b1 + 1, 0, none⟩ = false := by simp [World.frozen?, cr]
      have f1 : wr.frozen? ⟨b1 + 1, 1, none⟩ = false := by simp [World.frozen?, cr]
      have f2' : wr.frozen? ⟨b1 + 1, 2, none⟩ = false := by simp [World.frozen?, cr]
      simp only [List.getElem?_toArray, List.getElem?_cons_zero, List.getElem?_cons_succ] at x0 x1 x2 d0 d1 d2
      have CR := Lib.hid cr
      have HBW := Lib.hid hbw
      clear hbr cb cr hbw
      go_wp2_with fail
      have q1 := CR.out
      rw [setCell_eq_setRow _ _ _ _ _ _ _ q1]
      have q2 := setRow_heap _ _ _ (#[Value.int .i64 0, .int .i64 0, .slice none 0 0].setIfInBounds 0 (.int .i64 id)) _ _ q1
      rw [setCell_eq_setRow _ _ _ _ _ _ _ q2]
      have q3 := setRow_heap _ _ _ ((#[Value.int .i64 0, .int .i64 0, .slice none 0 0].setIfInBounds 0 (.int .i64 id)).setIfInBounds 1 (.int .i64 bs)) _ _ q2
      rw [setCell_eq_setRow _ _ _ _ _ _ _ q3]
      have q4 := setRow_heap _ _ _ (((#[Value.int .i64 0, .int .i64 0, .slice none 0 0].setIfInBounds 0 (.int .i64 id)).setIfInBounds 1 (.int .i64 bs)).setIfInBounds 2 (.slice (some ⟨g, 0, none⟩) k c1)) _ _ q3
      simp only [setRow_setRow] at q4 ⊢
      have hml := HI.out.len.trans HN.out
      have hot : ∀ q, q ≠ b1 + 1 → (wr.setRow (b1 + 1) (((#[Value.int .i64 0, .int .i64 0, .slice none 0 0].setIfInBounds 0 (.int .i64 id)).setIfInBounds 1 (.int .i64 bs)).setIfInBounds 2 (.slice (some ⟨g, 0, none⟩) k c1))).heap[q]? = wr.heap[q]? := fun q hq => setRow_other _ _ _ _ (by omega)
      have hbz : Below w.heap.size w (wr.setRow (b1 + 1) (((#[Value.int .i64 0, .int .i64 0, .slice none 0 0].setIfInBounds 0 (.int .i64 id)).setIfInBounds 1 (.int .i64 bs)).setIfInBounds 2 (.slice (some ⟨g, 0, none⟩) k c1))) :=
        HBW.out.trans ⟨rfl, rfl, rfl, by simp, fun q hq => hot q (by have := HB1.out; omega)⟩
      have hda : DeltasAt w.heap.size (wr.setRow (b1 + 1) (((#[Value.int .i64 0, .int .i64 0, .slice none 0 0].setIfInBounds 0 (.int .i64 id)).setIfInBounds 1 (.int .i64 bs)).setIfInBounds 2 (.slice (some ⟨g, 0, none⟩) k c1))) (.slice (some ⟨g, 0, none⟩) k c1) m := by
        refine ⟨⟨HI.out.own.1, HI.out.own.2.imp (fun h => h) fun ⟨g', cap, cur, hv, hb, hg, r⟩ => ⟨g', cap, cur, hv, by have := HB1.out; omega, (hot g' (by omega)).trans hg, r⟩⟩, fun y hy => ?_⟩
        obtain ⟨j, hj⟩ := List.mem_iff_getElem?.1 hy
        have hjl := (List.getElem?_eq_some_iff.1 hj).1
        exact (HI.out.bod j y (by omega) hj).keep fun q cur' hq => hot q (fun e => by subst e; rw [CR.out] at hq; cases hq)
      refine bodyPost_ret (results_cell_row rfl _ _ (b1 + 1) 52 _ (0, 0) _ rfl q4 Tryz.underlying52 rfl (by kernel_rfl)) rfl ⟨⟨id, bs, some ⟨g, 0, none⟩, c1, m⟩, by rw [hml]; rfl, rfl, rfl, HI.out.same, by rw [hml]; exact hda, hbz, by rw [hml, HB1.out]; exact HFK.out⟩
end Go.Proofs.YtnkfnmkbfnhmfaaGreatDoor
namespace Go.Proofs.YtnkfnmkbfnhmfaaGreatDoor
open Go Go.RowKit Go.Shelf Go.Proofs Go.ChangeMaps Go.Maps Go.WideMaps
attribute [local go_sem] Oper.semAt_some

def FarX (base : Nat) (y : QX) : Prop := FarA base y.A ∧ ∀ x ∈ y.l, FarA base x.A
theorem FarK.mem {base : Nat} {m : List DX} (h : FarK base m.length m) : ∀ x ∈ m, FarA base x.A := fun x hx => by
  obtain ⟨j, hj⟩ := List.mem_iff_getElem?.1 hx
  exact h j x (List.getElem?_eq_some_iff.1 hj).1 hj
def SubPostF (base : Nat) (w : World) (qb hb ab room : Nat) (v : Value) (R : List QX) (L : List AX) (n : Nat) (x : QX) (e : Ending) (w' : World) : Prop :=
  e = .returned (.int .i64 (subE n room R L x)) ∧
  ((subE n room R L x ≠ 0 ∧ Below w.heap.size w w') ∨
   (subE n room R L x = 0 ∧ ∃ v' y, QueueAt base w' qb hb ab room v' (R ++ [y]) L ∧ (y.id = x.id ∧ y.base = x.base ∧ y.l.map DX.dl = x.l.map DX.dl) ∧ QTurn (fun j => j = qb ∨ v.ownBlock = some j) w w' ∧ (∀ j, v'.ownBlock = some j → v.ownBlock = some j ∨ w.heap.size ≤ j) ∧ FarX w.heap.size y))
set_option maxRecDepth 100000 in
set_option maxHeartbeats 16000000 in
theorem submitF_any {base : Nat} {w : World} {qb hb ab room : Nat} {v : Value} {R : List QX} {L : List AX} {n : Nat} {nm : List FX} {M : Bs → Nat} {nv cv : Value} {mb k : Nat} {D : DataW Unit} {H : List (Nat × List DX)} (h : QueueAt base w qb hb ab room v R L) (hh : HistAt base w hb n nm M nv cv mb k D H) (x : QX) (hbw : base ≤ w.heap.size) (hx : DelsAt w x.A x.c x.l) (hs : SmallD x.l) (hR : R.length ≤ 100000)
    (hid : keyOf Tryz.prog 3 (.int .i64 x.id) = some (.int .i64 x.id)) :
    Calls Tryz.prog 29 #[.pointer (some ⟨qb, 0, none⟩), x.v] w (SubPostF base w qb hb ab room v R L n x) := by
  obtain ⟨id, bs, A, c, l⟩ := x
  unfold QX.v
  simp only at hx hs hid
  obtain ⟨m, hm⟩ : ∃ m, l.length = m := ⟨_, rfl⟩
  obtain ⟨bx, hbx⟩ : ∃ b, w.heap.size = b := ⟨_, rfl⟩
  obtain ⟨W1, hW1⟩ : ∃ W, w.alloc (.cells #[.int .i64 id, .int .i64 bs, .slice A m c] 52) = W := ⟨_, rfl⟩
  have hb1 : Below w.heap.size w W1 := by rw [← hW1]; exact (Below.refl _ _).alloc (Nat.le_refl _) _
  have hn1 : ReqB W1 bx (.int .i64 id) (.int .i64 bs) (.slice A m c) := by unfold ReqB; rw [← hW1, ← hbx]; exact heap_alloc_new _ _
  have hq1 := h.below hb1
  have hh1 := hh.below hb1
  have HHI := Lib.hid (qhistory_any qb hb _ _ _ W1 hq1.heap)
  obtain ⟨x0, x1, x2, -, -, -⟩ := hn1.facts
  have HQ1 := Lib.hid hq1
  have HH1 := Lib.hid hh1
  have HB1 := Lib.hid hb1
  have HN1 := Lib.hid hn1
  have HW1 := Lib.hid hW1
  have HBX := Lib.hid hbx
  have HM := Lib.hid hm
  have HX := Lib.hid hx
  have HSM := Lib.hid hs
  have HSE := Lib.hid (show subE n room R L ⟨id, bs, A, c, l⟩ = if id < 1 ∨ m = 0 then 2 else if bs < 0 ∨ (n : Int) < bs then 7 else if hasA L id || waitsQ R id then 12 else if room ≤ R.length then 8 else 0 by unfold subE; simp only [hm])
  obtain ⟨se, hse⟩ : ∃ se, subE n room R L ⟨id, bs, A, c, l⟩ = se := ⟨_, rfl⟩
  have HSP := Lib.hid (show SubPostF base w qb hb ab room v R L n ⟨id, bs, A, c, l⟩ = fun e w' => e = .returned (.int .i64 se) ∧ ((se ≠ 0 ∧ Below w.heap.size w w') ∨ (se = 0 ∧ ∃ v' y, QueueAt base w' qb hb ab room v' (R ++ [y]) L ∧ (y.id = id ∧ y.base = bs ∧ y.l.map DX.dl = l.map DX.dl) ∧ QTurn (fun j => j = qb ∨ v.ownBlock = some j) w w' ∧ (∀ j, v'.ownBlock = some j → v.ownBlock = some j ∨ w.heap.size ≤ j) ∧ FarX w.heap.size y)) by funext e w'; unfold SubPostF; rw [hse])
  rw [hse] at HSE
  rw [hm, HSP.out]
  have HH := Lib.hid hh
  have HQ := Lib.hid h
  clear h hh hb1 hn1 hq1 hh1 hW1 hbx hm hx hs hse
  go_enter Tryz.func29, Tryz.ntmps29
  go_upto_region 1 with fail
  rw [HBX.out, HW1.out]
  go_wp2_with fail
  refine HHI.out.mono ?_
  rintro e w2 ⟨rfl, hw2⟩
  have hw2 := hw2.symm
  subst hw2
  by_cases h1 : id < 1
  · have hse := HSE.out
    rw [if_pos (Or.inl h1)] at hse
    subst hse
    go_wp2_with fail
    go_ret
    exact ⟨rfl, .inl ⟨by decide, HB1.out⟩⟩
  · by_cases h2 : m = 0
    · have hse := HSE.out
      rw [if_pos (Or.inr h2)] at hse
      subst hse
      subst h2
      go_wp2_with fail
      go_ret
      exact ⟨rfl, .inl ⟨by decide, HB1.out⟩⟩
    · have hse1 := Lib.hid (HSE.out.trans (if_neg (by omega)))
      have h2i : ¬ (m : Int) = 0 := by omega
      by_cases h3 : bs < 0
      · have hse := hse1.out
        rw [if_pos (Or.inl h3)] at hse
        subst hse
        go_wp2_with fail
        go_ret
        exact ⟨rfl, .inl ⟨by decide, HB1.out⟩⟩
      · obtain ⟨Ac, cc, hcv, hcc⟩ := HH1.out.commit_slice
        have hc1 := HH1.out.heap
        rw [hcv] at hc1
        have HHD := Lib.hid (fun (q : Nat) => hhead_any hb Ac n cc (W1.drewN q) (cell_of_row (W1.drewN q) hb 1 _ _ _ (show (W1.drewN q).heap[hb]? = _ from hc1)))
        have q0 : W1.cell? ⟨qb, 0, none⟩ = some (.pointer (some ⟨hb, 0, none⟩)) := cell_of_row W1 qb 0 _ _ _ HQ1.out.heap
        clear hc1 hcv
        by_cases h4 : (n : Int) < bs
        · have hse := hse1.out
          rw [if_pos (Or.inr h4)] at hse
          subst hse
          go_wp2_with fail
          go_quiet ((go_at_call 17; exact Calls.quiet_of_same (HHD.out _)))
          go_wp2_with fail
          go_ret
          exact ⟨rfl, .inl ⟨by decide, belowQn HB1.out _⟩⟩
        · have hse2 := Lib.hid (hse1.out.trans (if_neg (by omega)))
          go_wp2_with fail
          go_quiet ((go_at_call 17; exact Calls.quiet_of_same (HHD.out _)))
          obtain ⟨w3, hw3⟩ : ∃ W, W1.drewN nq = W := ⟨_, rfl⟩
          have hbq : Below W1.heap.size W1 w3 := by rw [← hw3]; exact belowQn (Below.refl _ _) _
          have HB3 := Lib.hid (HB1.out.trans (hbq.mono HB1.out.size))
          have hq3 := HQ1.out.below hbq
          have HQ3 := Lib.hid hq3
          have HX3 := Lib.hid (show ReqB w3 bx (.int .i64 id) (.int .i64 bs) (.slice A m c) from row_belowQ HN1.out hbq)
          have HTK := Lib.hid (took_any hq3 id hid)
          obtain ⟨y0, y1, y2, -, -, -⟩ := HX3.out.facts
          rw [hw3]
          clear hbq hq3 x0 x1 x2 q0
          obtain ⟨tk, htk⟩ : ∃ b, (hasA L id || waitsQ R id) = b := ⟨_, rfl⟩
          have htk2 := htk
          rw [htk2] at HTK
          have hse3 := hse2.out
          rw [htk2] at hse3
          clear htk2
          have HSE3 := Lib.hid hse3
          clear hse3
          clear hw3
          cases tk with
          | true =>
            have hse := HSE3.out
            rw [if_pos rfl] at hse
            subst hse
            go_wp2_with fail
            refine HTK.out.mono ?_
            rintro e w4 ⟨rfl, hb4⟩
            have HB4 := Lib.hid (HB3.out.trans (hb4.mono HB3.out.size))
            clear hb4
            go_wp2_with fail
            go_ret
            exact ⟨rfl, .inl ⟨by decide, HB4.out⟩⟩
          | false =>
            have hse4 := Lib.hid (HSE3.out.trans (if_neg (by decide)))
            go_wp2_with fail
            refine HTK.out.mono ?_
            rintro e w4 ⟨rfl, hb4⟩
            have HB4 := Lib.hid (HB3.out.trans (hb4.mono HB3.out.size))
            have HQ4 := Lib.hid (HQ3.out.below hb4)
            have HX4 := Lib.hid (show ReqB w4 bx (.int .i64 id) (.int .i64 bs) (.slice A m c) from row_belowQ HX3.out hb4)
            clear hb4 y0 y1 y2
            obtain ⟨Av, cv2, hv, -, -, -, -⟩ := HQ4.out.waits.slice
            have hqf := HQ4.out.heap
            rw [hv] at hqf
            have HFU := Lib.hid (qfull_any qb _ _ Av R.length cv2 room w4 hqf)
            clear hqf hv
            by_cases h5 : room ≤ R.length
            · have hse := hse4.out
              rw [if_pos h5] at hse
              subst hse
              rw [decide_eq_true h5] at HFU
              go_wp2_with fail
              refine HFU.out.mono ?_
              rintro e w5 ⟨rfl, q5, rfl⟩
              go_wp2_with fail
              go_ret
              exact ⟨rfl, .inl ⟨by decide, belowQn HB4.out _⟩⟩
            · have hse := hse4.out
              rw [if_neg h5] at hse
              subst hse
              rw [decide_eq_false h5] at HFU
              go_wp2_with fail
              refine HFU.out.mono ?_
              rintro e w5 ⟨rfl, q5, rfl⟩
              go_wp2_with fail
              obtain ⟨w5, hw5⟩ : ∃ W, w4.drewN q5 = W := ⟨_, rfl⟩
              have hb5 : Below w.heap.size w w5 := by rw [← hw5]; exact belowQn HB4.out _
              have hb45 : Below w4.heap.size w4 w5 := by rw [← hw5]; exact belowQn (Below.refl _ _) _
              have hq5 := HQ4.out.below hb45
              have hx5 : ReqB w5 bx (.int .i64 id) (.int .i64 bs) (.slice A m c) := row_belowQ HX4.out hb45
              have X5 := hx5.facts
              have hown := qownF_any ⟨id, bs, A, c, l⟩ w5.drew (HX.out.below (hb5.drew)) HSM.out (show 0 < l.length by have := HM.out; omega)
              unfold QX.v at hown
              simp only [HM.out] at hown
              have HOWN := Lib.hid hown
              have HQ5 := Lib.hid hq5
              have HX5 := Lib.hid hx5
              have HB5 := Lib.hid hb5
              have hw5s := hb5.size
              have hbx5 : bx < w5.heap.size := (Array.getElem?_eq_some_iff.1 hx5).1
              have HNQ := Lib.hid (show bx ≠ qb from fun e => by
                unfold ReqB at hx5
                rw [e, hq5.heap] at hx5; cases hx5)
              have HNV := Lib.hid (show v.ownBlock ≠ some bx from fun e => by
                obtain ⟨_, cur, hc⟩ := HQ.out.waits.far e
                have := (Array.getElem?_eq_some_iff.1 hc).1
                have := HBX.out
                omega)
              have hm0 : 0 < l.length := by have := HM.out; omega
              rw [hw5]
              clear hw5 hb5 hb45 hq5 hx5 hown
              refine wp_region_held_drew (S := (fun w' => w'.cell? ⟨bx, 0, none⟩ = some (.int .i64 id) ∧ w'.cell? ⟨bx, 1, none⟩ = some (.int .i64 bs) ∧ w'.cell? ⟨bx, 2, none⟩ = some (.slice A m c))) (by kernel_rfl) ⟨X5.1, X5.2.1, X5.2.2.1⟩ (fun hHeld => ?_)
              refine wpAnyH_take (i := 0) (v := ?vs0) rfl (by kernel_rfl) (by kernel_rfl) (by kernel_rfl) (fun _ _ _ h => h) (Or.inl ⟨by rfl, ?ys0⟩) (by assumption) ?rs0
              case ys0 =>
                intro w hSw
                (try dsimp only at hSw)
                go_simp
                first | done | with_reducible rfl
              try simp only [Act.put, List.getElem_toArray, List.getElem_cons_zero, List.setIfInBounds_toArray, List.set_cons_zero, List.set_cons_succ]
              refine wpAnyH_take (i := 1) (v := ?vs1) rfl (by kernel_rfl) (by kernel_rfl) (by kernel_rfl) (fun _ _ _ h => h) (Or.inl ⟨by rfl, ?ys1⟩) (by assumption) ?rs1
              case ys1 =>
                intro w hSw
                (try dsimp only at hSw)
                go_simp
                first | done | with_reducible rfl
              try simp only [Act.put, List.getElem_toArray, List.getElem_cons_zero, List.getElem_cons_succ, List.setIfInBounds_toArray, List.set_cons_zero, List.set_cons_succ]
              refine wpAnyH_take (i := 2) (v := ?vs2) rfl (by kernel_rfl) (by kernel_rfl) (by kernel_rfl) (fun _ _ _ h => h) (Or.inl ⟨by rfl, ?ys2⟩) (by assumption) ?rs2
              case ys2 =>
                intro w hSw
                (try dsimp only at hSw)
                go_simp
                first | done | with_reducible rfl
              try simp only [Act.put, List.getElem_toArray, List.getElem_cons_zero, List.getElem_cons_succ, List.setIfInBounds_toArray, List.set_cons_zero, List.set_cons_succ]
              refine wpAnyH_take (i := 3) (v := ?vs3) rfl (by kernel_rfl) (by kernel_rfl) (by kernel_rfl) (fun _ _ _ h => h) (Or.inl ⟨by rfl, ?ys3⟩) (by assumption) ?rs3
              case ys3 =>
                intro w hSw
                (try dsimp only at hSw)
                go_simp
                first | done | with_reducible rfl
              try simp only [Act.put, List.getElem_toArray, List.getElem_cons_zero, List.getElem_cons_succ, List.setIfInBounds_toArray, List.set_cons_zero, List.set_cons_succ]
              refine wpAnyH_ready (rs := [4]) (by kernel_rfl) (by simp) ?_
              refine AllReadyH.cons rfl (fun K hK => ?_) AllReadyH.nil
              go_simp
              refine HOWN.out.mono ?_
              rintro e w6 ⟨y, rfl, hy1, hy2, hy3, hyd, hb6, hfk⟩
              have HFX := Lib.hid (show FarX w5.heap.size y from ⟨fun a ha => (rowT_ge hyd.own (g := a.block) (by rw [ha]; rfl)).1, hfk.mem⟩)
              clear hfk
              have hb6' : Below w5.heap.size w5 w6 := (Below.refl _ _).drew.trans hb6
              have hx6 := (hb6'.block bx hbx5).trans HX5.out
              have HY := Lib.hid (show y.id = id ∧ y.base = bs ∧ y.l.map DX.dl = l.map DX.dl from ⟨hy1, hy2, hy3⟩)
              have hq6 := HQ5.out.below hb6'
              have hyl : y.l.length = l.length := by have := congrArg List.length hy3; simpa using this
              have hjo := join_any hq6 y (by have := hb6'.size; omega) (hyd.lowerQ (by show base ≤ w5.heap.size; omega)) (small_dl hy3 HSM.out) (by rw [hyl]; omega) hR
              have HJO := Lib.hid hjo
              have HB6 := Lib.hid hb6'
              have HX6 := Lib.hid hx6
              have hbx6 : bx < w6.heap.size := (Array.getElem?_eq_some_iff.1 hx6).1
              have hHeld := (show _ ∧ _ ∧ _ from ⟨cell_of_row _ bx 0 _ _ _ hx6, cell_of_row _ bx 1 _ _ _ hx6, cell_of_row _ bx 2 _ _ _ hx6⟩)
              clear hb6 hb6' hx6 hq6 hjo hy1 hy2 hy3 hyd hyl
              refine hK.out _ _ hHeld (fun hHeld => ?_)
              clear hK K
              try simp only [Act.put, List.getElem_toArray, List.getElem_cons_zero, List.getElem_cons_succ, List.setIfInBounds_toArray, List.set_cons_zero, List.set_cons_succ]
              refine wpAnyH_ready (rs := [5]) (by kernel_rfl) (by simp) ?_
              refine AllReadyH.cons rfl (fun K hK => ?_) AllReadyH.nil
              go_simp
              refine HJO.out.mono ?_
              rintro e w7 ⟨v7, rfl, hq7, ht7, hv7⟩
              have hx7 := (ht7.block bx hbx6 (fun h => h.elim (fun e => HNQ.out e) (fun e => HNV.out e))).trans HX6.out
              have HQ7 := Lib.hid hq7
              have HT7 := Lib.hid ht7
              have HV7 := Lib.hid hv7
              have hHeld := (show _ ∧ _ ∧ _ from ⟨cell_of_row _ bx 0 _ _ _ hx7, cell_of_row _ bx 1 _ _ _ hx7, cell_of_row _ bx 2 _ _ _ hx7⟩)
              clear hq7 ht7 hv7 hx7
              refine hK.out _ _ hHeld (fun hHeld => ?_)
              clear hK K
              try simp only [Act.put, List.getElem_toArray, List.getElem_cons_zero, List.getElem_cons_succ, List.setIfInBounds_toArray, List.set_cons_zero, List.set_cons_succ]
              refine wpAnyH_done (by kernel_rfl) ?_ _
              go_wp2_with fail
              go_ret
              have hbw6 := HB5.out.trans (HB6.out.mono HB5.out.size)
              refine ⟨rfl, ⟨v7, y, HQ7.out, HY.out, (QTurn.of_below (S := fun j => j = qb ∨ v.ownBlock = some j) hbw6).trans HT7.out (fun j hj _ => hj), fun j hj => ?_, ⟨HFX.out.1.le HB5.out.size, fun x hx => (HFX.out.2 x hx).le HB5.out.size⟩⟩⟩
              rcases HV7.out j hj with e | e
              · exact .inl e
              · exact .inr (Nat.le_trans hbw6.size e)
end Go.Proofs.YtnkfnmkbfnhmfaaGreatDoor
namespace Go.Proofs.YtnkfnmkbfnhmfaaGreatDoor
open Go Go.RowKit Go.Shelf Go.Proofs Go.ChangeMaps Go.Maps Go.WideMaps
attribute [local go_sem] Oper.semAt_some

def valsQ (b : Bs) : List Value := (numsB b).map fun n => .int .u8 n
theorem valsQ_length (b : Bs) : (valsQ b).length = b.length := by unfold valsQ; rw [List.length_map, numsB_length]
theorem u8_infoQ : (Tryz.prog.info? 5).map (fun i => (i.zero, i.size, i.bytes)) = some (some (.int .u8 0), 1, 1) := by kernel_rfl
theorem own_bytesQ {base : Nat} {w : World} {v : Value} {b : Bs} (h : w.ownsRow base 5 1 v b.length (valsQ b)) : ∃ A c, v = .slice A b.length c ∧ BytesOwn w A b ∧ FarA base A := by
  rcases h.2 with ⟨rfl, hn⟩ | ⟨g, cap, cur, rfl, hgb, hh, _⟩
  · obtain rfl := List.eq_nil_of_length_eq_zero hn
    exact ⟨none, 0, rfl, BytesOwn.nil _ _, fun a e => by cases e⟩
  · refine ⟨some ⟨g, 0, none⟩, cap, rfl, fun _ => ⟨g, cur, rfl, hh, fun i hi => ?_⟩, fun a e => by cases e; exact hgb⟩
    have := World.ownsRow.cells h (g := g) rfl i (.int .u8 ((numsB b).getD i 0)) (by
      unfold valsQ
      rw [List.getElem?_map]
      have hl' : i < (numsB b).length := by rw [numsB_length]; exact hi
      simp [List.getD, List.getElem?_eq_getElem hl'])
    rw [Go.WideShapes.add_plain, Nat.zero_add] at this
    exact this
theorem vals_oneQ (b : Bs) : ∀ u ∈ valsQ b, u.oneCell' = true := fun u hu => by
  unfold valsQ at hu
  obtain ⟨y, _, rfl⟩ := List.mem_map.1 hu; rfl
theorem wp_appQ {base : Nat} {w : World} {A : Option Addr} {c : Nat} {b : Bs} {o : Oper} {a : Act} {K : Act → World → Prop} {Q : Exit → Act → World → Prop} (s x : Operand)
    (ho : o.op = .call { callee := .builtin .append, args := #[s, x], argTypes := #[79, 79] }) (hs : a.eval s = .slice none 0 0)
    (hx : a.eval x = .slice A b.length c) (hb : BytesAt w A b) (hbc : b.length ≤ c) (hnil : A = none → c = 0) (hlen : b.length ≤ 1000000) (hbase : base ≤ w.heap.size)
    (h : ∀ v' w', w'.ownsRow base 5 1 v' b.length (valsQ b) → w.grownBy w' none → K (a.put o.dst v') w') : Oper.wp Tryz.prog o a w K Q := by
  obtain ⟨i0, hi, hz0, hz1, hz2⟩ := info_parts u8_infoQ
  cases A with
  | none =>
    have hc := hnil rfl
    have hn : b = [] := by
      cases b with
      | nil => rfl
      | cons x r => rw [hc] at hbc; simp at hbc
    subst hn hc
    have hr := run_append_owned_none (P := Tryz.prog) (w := w) base 79 o.type 5 i0 1 Tryz.underlying79 hi (.slice none 0 0) 0 [] (World.ownsRow_nil _ _ _ _)
    unfold Oper.wp execOp
    have hx : a.eval x = .slice none 0 0 := hx
    simp only [ho, resolve, invoke, builtin, Sem.run_bind, Sem.run_pure, Result.andThen_ok, List.map_toArray, List.map_cons, List.map_nil, hs, hx, hr]
    exact h _ w (World.ownsRow_nil _ _ _ _) ⟨rfl, rfl, rfl, Nat.le_refl _, fun _ _ _ => rfl⟩
  | some ad =>
    obtain ⟨g, o', s'⟩ := ad
    refine wp_append_own w s x 79 ho base 5 i0 (.int .u8 0) 1 1 Tryz.underlying79 hi hz0 hz1 hz2 rfl (by decide) (.slice none 0 0) 0 [] hs (World.ownsRow_nil _ _ _ _) ⟨g, o', s'⟩ b.length c (valsQ b) hx (by rw [valsQ_length, Nat.mul_one])
      (fun j u hu => ?_) (vals_oneQ b) (by unfold maxLen; omega) (by omega) hbase fun v' w' h1 h2 _ => h v' w' (by simpa using h1) h2
    unfold valsQ at hu
    rw [List.getElem?_map] at hu
    obtain ⟨y, hy, rfl⟩ := Option.map_eq_some_iff.1 hu
    have hj : j < b.length := by have := (List.getElem?_eq_some_iff.1 hy).1; rwa [numsB_length] at this
    obtain ⟨g', o2, e', hc'⟩ := hb (by omega)
    cases e'
    rw [Go.WideShapes.add_plain, hc' j hj, List.getD_eq_getElem?_getD, hy]; rfl
theorem wpList_appQ {base : Nat} {w : World} {A : Option Addr} {c : Nat} {b : Bs} {ops : Array Oper} {rest : List Oper} {o : Oper} {a : Act} {Q : Exit → Act → World → Prop} (hgd : o.guard = none) (s x : Operand)
    (ho : o.op = .call { callee := .builtin .append, args := #[s, x], argTypes := #[79, 79] }) (hs : a.eval s = .slice none 0 0)
    (hx : a.eval x = .slice A b.length c) (hb : BytesAt w A b) (hbc : b.length ≤ c) (hnil : A = none → c = 0) (hlen : b.length ≤ 1000000) (hbase : base ≤ w.heap.size)
    (h : ∀ v' w', w'.ownsRow base 5 1 v' b.length (valsQ b) → w.grownBy w' none → wpList Tryz.prog ops Q rest (a.put o.dst v') w') : wpList Tryz.prog ops Q (o :: rest) a w :=
  wpList_plain hgd fun _ hK => wp_appQ s x ho hs hx hb hbc hnil hlen hbase fun v' w' h2 h3 => hK _ _ (h v' w' h2 h3)
set_option maxHeartbeats 2000000 in
theorem copyb_any (b : Bs) (A : Option Addr) (c : Nat) (w : World) (hb : BytesAt w A b) (hbc : b.length ≤ c) (hnil : A = none → c = 0) (hlen : b.length ≤ 1000000) :
    Calls Tryz.prog 33 #[.slice A b.length c] w fun e w' => ∃ A' c', e = .returned (.slice A' b.length c') ∧ BytesOwn w' A' b ∧ FarA w.heap.size A' ∧ Below w.heap.size w w' := by
  have HB := Lib.hid hb
  clear hb
  go_enter Tryz.func33, Tryz.ntmps33
  go_wp2_with (at_builtin; go_loud (refine wpList_appQ (base := w.heap.size) (w := w) (A := A) (c := c) (b := b) rfl _ _ rfl rfl rfl HB.out hbc hnil hlen (Nat.le_refl _) ?_; intro v1 w1 hown hgr))
  obtain ⟨A', c', rfl, ho, hf⟩ := own_bytesQ hown
  have hbl : Below w.heap.size w w1 := (Below.refl _ _).grown hgr (Nat.le_refl _) (fun k e => by cases e)
  clear hown hgr
  go_wp2_with fail
  go_ret
  exact ⟨A', c', rfl, ho, hf, hbl⟩
end Go.Proofs.YtnkfnmkbfnhmfaaGreatDoor
namespace Go.Proofs.YtnkfnmkbfnhmfaaGreatDoor
open Go Go.RowKit Go.Shelf Go.Proofs Go.ChangeMaps Go.Maps Go.WideMaps
attribute [local go_sem] Oper.semAt_some

theorem QueueAt.setFar {base n0 g : Nat} {w w' : World} {qb hb ab room : Nat} {v : Value} {Y : QX} {L : List AX} (h : QueueAt base w qb hb ab room v [Y] L) (hf : FarX n0 Y) (hg : g < n0) (hq : g ≠ qb) (ha : g ≠ ab) (hv : v.ownBlock ≠ some g) (hk : ∀ j o, w.heap[j]? = some o → j ≠ g → w'.heap[j]? = w.heap[j]?) : QueueAt base w' qb hb ab room v [Y] L := by
  refine ⟨(hk qb _ h.heap (Ne.symm hq)).trans h.heap, ⟨⟨h.waits.row.1, ?_⟩, fun x hx => ?_, h.waits.sm⟩, ownsMap_keep h.ans (fun o ho => (hk ab o ho (Ne.symm ha)).trans ho), h.lq, h.la⟩
  · exact h.waits.row.2.imp (fun h => h) fun ⟨g', cap, cur, hv', hb', hg', r⟩ => ⟨g', cap, cur, hv', hb', (hk g' _ hg' (fun e => hv (by rw [hv', e]; rfl))).trans hg', r⟩
  · have h1 := h.waits.own x hx
    obtain rfl : x = Y := by simpa using hx
    refine ⟨⟨h1.own.1, h1.own.2.imp (fun h => h) fun ⟨g', cap, cur, hv', hb', hg', r⟩ => ⟨g', cap, cur, hv', hb', (hk g' _ hg' (fun e => by
      injection hv' with e1
      have h2 : n0 ≤ g' := hf.1 _ e1
      omega)).trans hg', r⟩⟩, fun y hy hn => ?_⟩
    obtain ⟨g', cur, e, hh, hc⟩ := h1.bod y hy hn
    have hne : g' ≠ g := by
      have h2 : n0 ≤ g' := hf.2 y hy _ e
      omega
    have hs := hk g' _ hh hne
    exact ⟨g', cur, e, hs.trans hh, fun i hi => (World.cell?_of_block (a := ⟨g', i, none⟩) hs).trans (hc i hi)⟩
def DelV (W : World) (b : Nat) (x y z : Value) : Prop := W.heap[b]? = some (.cells #[x, y, z] 81 (0, 0))
theorem DelV.facts {W : World} {b : Nat} {x y z : Value} (h : DelV W b x y z) : W.cell? ⟨b, 0, none⟩ = some x ∧ W.cell? ⟨b, 1, none⟩ = some y ∧ W.cell? ⟨b, 2, none⟩ = some z ∧ W.frozen? ⟨b, 0, none⟩ = false ∧ W.frozen? ⟨b, 1, none⟩ = false ∧ W.frozen? ⟨b, 2, none⟩ = false := by
  unfold DelV at h
  refine ⟨cell_of_row W b 0 _ _ _ h, cell_of_row W b 1 _ _ _ h, cell_of_row W b 2 _ _ _ h, ?_, ?_, ?_⟩ <;> simp [World.frozen?, h]
theorem DelV.store {W : World} {b : Nat} {x y z x' y' z' : Value} (h : DelV W b x y z) : DelV (((W.setCell ⟨b, 0, none⟩ x').setCell ⟨b, 1, none⟩ y').setCell ⟨b, 2, none⟩ z') b x' y' z' ∧ W.grownBy (((W.setCell ⟨b, 0, none⟩ x').setCell ⟨b, 1, none⟩ y').setCell ⟨b, 2, none⟩ z') (some b) := by
  have h1 := heap_setCell_same W b 0 _ _ x' h
  have h2 := heap_setCell_same _ b 1 _ _ y' h1
  have h3 := heap_setCell_same _ b 2 _ _ z' h2
  refine ⟨h3, ⟨rfl, rfl, rfl, by simp [World.setCell], fun q hq hne => ?_⟩⟩
  have hne : q ≠ b := fun e => hne (by rw [e])
  exact (heap_setCell_other _ ⟨b, 2, none⟩ q _ hne).trans ((heap_setCell_other _ ⟨b, 1, none⟩ q _ hne).trans (heap_setCell_other _ ⟨b, 0, none⟩ q _ hne))
theorem DelV.dels {W : World} {d : Nat} {x : DX} (h : DelV W d (.int .i64 x.k) (.string x.p) (.slice x.A x.b.length x.c)) (hb : BytesAt W x.A x.b) : DelsAt W (some ⟨d, 0, none⟩) 1 [x] := by
  obtain ⟨c0, c1, c2, -, -, -⟩ := h.facts
  refine ⟨Nat.le_refl _, by unfold maxLen; omega, fun _ => ⟨d, 0, rfl, fun i y hy => ?_⟩, fun y hy => ?_⟩
  · have hi : i = 0 := by
      have := (List.getElem?_eq_some_iff.1 hy).1
      simpa using this
    subst hi
    obtain rfl : x = y := by simpa using hy
    exact ⟨c0, c1, c2⟩
  · obtain rfl : y = x := by simpa using hy
    exact hb
theorem apply_one (b : Bs) (hb : b.length ≤ 65536) : applyT [] [⟨1, [97], b⟩] = .ok [([97], b)] := by
  have e1 : stepsT [] [⟨1, [97], b⟩] = .ok [([97], b)] := by
    unfold stepsT stepT
    rw [show rightB [97] = true by kernel_rfl]
    rfl
  unfold applyT
  rw [e1]
  have e2 : longT [([97], b)] = false := by unfold longT; simp; omega
  have e3 : rightT [([97], b)] = true := by
    unfold rightT
    simp only [List.all_cons, List.all_nil, okF, show rightB [97] = true by kernel_rfl, pairB]
    simp; omega
  simp only [e2, e3]
  rfl
theorem late_le {M : Bs → Nat} (h : ∀ s, M s ≤ 0) (l : List DX) : lateQ M 0 l = false := by
  unfold lateQ
  rw [List.any_eq_false]
  intro p _
  have := h p
  simp only [decide_eq_true_eq]
  omega
/-- What is left of the bytes that are being spoilt. -/
def MineAt (w : World) (A : Option Addr) (n i n0 : Nat) (b : Bs) : Prop := 0 < n → ∃ g cur, A = some ⟨g, 0, none⟩ ∧ g < n0 ∧ w.heap[g]? = some (.cells cur 5 (0, 0)) ∧ ∀ j, i ≤ j → j < n → w.cell? ⟨g, j, none⟩ = some (.int .u8 ((numsB b).getD j 0))
set_option maxHeartbeats 2000000 in
theorem qlong_nil (w : World) : Calls Tryz.prog 35 #[.slice none 0 0] w fun e w' => e = .returned (.int .i64 0) ∧ w' = w := by
  go_enter Tryz.func35, Tryz.ntmps35
  go_wp2_with fail
  go_loopw [3, 4] (fun v2 v3 wr => v2 = .int .i64 0 ∧ v3 = .int .i64 0 ∧ wr = w) (fun _ _ _ => 0)
  case atStart => exact ⟨rfl, rfl, rfl⟩
  case round =>
    obtain ⟨rfl, rfl, rfl⟩ := hrel
    go_wp2_with fail
    go_ret
    exact ⟨rfl, rfl⟩
def dM (A : Option Addr) (c : Nat) (b : Bs) : DX := ⟨1, ⟨#[97]⟩, A, c, b⟩
def kX (d : Nat) (A : Option Addr) (c : Nat) (b : Bs) : QX := ⟨7, 0, some ⟨d, 0, none⟩, 1, [dM A c b]⟩
theorem kX_v (d : Nat) (A : Option Addr) (c : Nat) (b : Bs) : (kX d A c b).v = .agg #[.int .i64 7, .int .i64 0, .slice (some ⟨d, 0, none⟩) 1 1] := rfl
theorem kX_sub (d : Nat) (A : Option Addr) (c : Nat) (b : Bs) : subE 0 3 [] [] (kX d A c b) = 0 := by
  unfold subE
  rw [if_neg (by show ¬ ((7 : Int) < 1 ∨ 1 = 0); omega), if_neg (by show ¬ ((0 : Int) < 0 ∨ ((0 : Nat) : Int) < 0); omega), if_neg (by rw [show (hasA [] (kX d A c b).id || waitsQ [] (kX d A c b).id) = false from rfl]; decide), if_neg (by decide)]
theorem kX_small (d : Nat) (A : Option Addr) (c : Nat) (b : Bs) (hb : b.length ≤ 1000000) : SmallD (kX d A c b).l := ⟨by show 1 ≤ 10000; omega, fun x hx => by
  obtain rfl : x = dM A c b := by simpa [kX] using hx
  exact ⟨by show 1 ≤ 1000000; omega, hb⟩⟩
theorem kX_dl (d : Nat) (A : Option Addr) (c : Nat) (b : Bs) : (kX d A c b).l.map DX.dl = [⟨1, [97], b⟩] := rfl
set_option maxRecDepth 200000 in
set_option maxHeartbeats 32000000 in
theorem qkeeps_any (b o : Bs) (A B : Option Addr) (c d : Nat) (w : World) (hA : BytesAt w A b) (hbc : b.length ≤ c) (hnil : A = none → c = 0) (hlb : b.length ≤ 281474976710656) (hlo : o.length ≤ 281474976710656) (hm : MaxOk w) :
    Calls Tryz.prog 5 #[.slice A b.length c, .slice B o.length d] w fun e w' => e = .returned (.bool true) ∧ Below w.heap.size w w' := by
  have HKN := Lib.hid (fun (W : World) (h : Below w.heap.size w W) => qknown_any W (hm.below h))
  have HM := Lib.hid hm
  have HA := Lib.hid hA
  have HNEW := Lib.hid (hnewS_any [] none 0 w (TreeAt.nil _ _ _ (Nat.zero_le _)) (fun x hx => by cases hx) hm)
  obtain ⟨n, hn⟩ : ∃ n, b.length = n := ⟨_, rfl⟩
  obtain ⟨m, hmm⟩ : ∃ m, o.length = m := ⟨_, rfl⟩
  rw [hn] at hlb
  rw [hmm] at hlo
  have wnm : IntKind.i64.wrap ((n : Int) + (m : Int)) = (n : Int) + (m : Int) := IntWalk.i64_in _ (by omega)
  by_cases g1 : 400 < n + m
  · have q1 : (400 : Int) < (n : Int) + (m : Int) := by omega
    rw [hn, hmm]
    clear hA hm hn hmm
    go_enter Tryz.func5, Tryz.ntmps5
    go_wp2_with fail
    refine (HKN.out w (Below.refl _ w : Below w.heap.size w w)).mono ?_
    rintro e wk ⟨rfl, hbk⟩
    have HBK := Lib.hid (show Below w.heap.size w wk from ((Below.refl _ w : Below w.heap.size w w)).trans (hbk.mono ((Below.refl _ w : Below w.heap.size w w)).size))
    clear hbk
    go_wp2_with fail
    go_ret
    exact ⟨rfl, HBK.out⟩
  have q1 : ¬ (400 : Int) < (n : Int) + (m : Int) := by omega
  have hn4 : n ≤ 400 := by omega
  rw [hn, hmm]
  have HN := Lib.hid hn
  have HBC := Lib.hid hbc
  have HNIL := Lib.hid hnil
  clear hA hm hn hmm hbc hnil
  go_enter Tryz.func5, Tryz.ntmps5
  go_wp2_with fail
  clear q1 wnm g1
  refine HNEW.out.mono ?_
  intro e w1 hp
  unfold NewS at hp
  rw [if_pos (by rfl)] at hp
  obtain ⟨hb, G0, l0, rfl, ⟨nm, M, nv, cv, mb, k, D, hH, hmd⟩, hb1⟩ := hp
  have HQN := Lib.hid (qnew_any hb 3 3 w1 (by decide))
  have HMD := Lib.hid hmd
  have HH1 := Lib.hid hH
  have HB1 := Lib.hid hb1
  clear hmd hH hb1 HNEW
  go_wp2_with fail
  refine HQN.out.mono ?_
  rintro e w2 ⟨qb, ab, rfl, hab, hq2, hb2⟩
  have hne : ab ≠ mb := by
    obtain ⟨es, ck, hy⟩ := HH1.out.map.block
    have := (Array.getElem?_eq_some_iff.1 hy).1
    omega
  have HNE := Lib.hid hne
  have HLQ := Lib.hid hq2.lq
  have HQ2 := Lib.hid (hq2.lower HB1.out.size)
  have HB2 := Lib.hid hb2
  have hcp := copyb_any b A c w2 (HA.out.below (HB1.out.trans (hb2.mono HB1.out.size))) HBC.out HNIL.out (by rw [HN.out]; omega)
  rw [HN.out] at hcp
  have HCP := Lib.hid hcp
  clear hne hab hq2 hb2 hcp HQN
  go_wp2_with fail
  refine HCP.out.mono ?_
  rintro e w3 ⟨Am, cm, rfl, hbo, hfa, hb3⟩
  obtain ⟨d1, hd1⟩ : ∃ b, w3.heap.size = b := ⟨_, rfl⟩
  obtain ⟨W4, hW4⟩ : ∃ W, w3.alloc (.cells #[.int .i64 1, .string ⟨#[97]⟩, .slice Am n cm] 81) = W := ⟨_, rfl⟩
  have d4 : DelV W4 d1 (.int .i64 1) (.string ⟨#[97]⟩) (.slice Am n cm) := by unfold DelV; rw [← hW4, ← hd1]; exact heap_alloc_new _ _
  have hb4 : Below w3.heap.size w3 W4 := by rw [← hW4]; exact (Below.refl _ _).alloc (Nat.le_refl _) _
  have hb24 := hb3.trans (hb4.mono hb3.size)
  have hb14 := HB2.out.trans (hb24.mono HB2.out.size)
  have hbo4 := hbo.below hb4
  have hs4 : d1 < W4.heap.size := (Array.getElem?_eq_some_iff.1 d4).1
  have HQ4 := Lib.hid (HQ2.out.below hb24)
  have hsub := submitF_any HQ4.out (HH1.out.below hb14) (kX d1 Am cm b) (HB1.out.trans (hb14.mono HB1.out.size)).size (DelV.dels (x := dM Am cm b) (by show DelV W4 d1 (.int .i64 1) (.string ⟨#[97]⟩) (.slice Am b.length cm); rw [HN.out]; exact d4) hbo4.at_) (kX_small d1 Am cm b (by rw [HN.out]; omega)) (by simp) (key_int 7 (by omega) (by omega))
  rw [kX_v] at hsub
  have hse := kX_sub d1 Am cm b
  have HSUB := Lib.hid hsub
  have HSE := Lib.hid hse
  have HM0 := Lib.hid (show MineAt W4 Am n 0 W4.heap.size b from fun h0 => by
    obtain ⟨g, cur, e, hh, hc⟩ := hbo4 (by rw [HN.out]; exact h0)
    exact ⟨g, cur, e, (Array.getElem?_eq_some_iff.1 hh).1, hh, fun j _ hj => hc j (by rw [HN.out]; exact hj)⟩)
  have HFA := Lib.hid hfa
  have HD4 := Lib.hid d4
  have HB14 := Lib.hid hb14
  have HS4 := Lib.hid hs4
  have HS2 := Lib.hid (Nat.le_trans HB2.out.size hb3.size)
  have HD1 := Lib.hid hd1
  have HW4 := Lib.hid hW4
  clear hbo hfa hb3 d4 hb4 hb24 hb14 hbo4 hs4 hsub hse HCP
  go_wp2_with fail
  clear hW4 hd1
  refine HSUB.out.mono ?_
  rintro e w6 ⟨rfl, hp6⟩
  rw [HSE.out] at hp6 ⊢
  rcases hp6 with ⟨h, _⟩ | ⟨_, v6, Y, hq6, ⟨hY1, hY2, hY3⟩, ht6, hv6, hfx⟩
  · exact absurd rfl h
  have HQ6 := Lib.hid (show QueueAt w.heap.size w6 qb hb ab 3 v6 [Y] [] from hq6)
  have HY := Lib.hid (show Y.id = 7 ∧ Y.base = 0 ∧ Y.l.map DX.dl = [⟨1, [97], b⟩] from ⟨hY1, hY2, hY3.trans (kX_dl _ _ _ _)⟩)
  have HFX := Lib.hid hfx
  have ht6k : ∀ j, j < W4.heap.size → j ≠ qb → w6.heap[j]? = W4.heap[j]? := fun j hj hne => ht6.block j hj (fun e => by
    rcases e with e | e
    · exact hne e
    · cases e)
  have HB6 := Lib.hid (HB14.out.trans (ht6.below (n := w1.heap.size) (fun j e => by
    rcases e with rfl | e
    · exact HLQ.out
    · cases e) HB14.out.size))
  have HD6 := Lib.hid (show DelV w6 d1 (.int .i64 1) (.string ⟨#[97]⟩) (.slice Am n cm) from (ht6k d1 HS4.out (fun e => by
    have h := HD4.out
    unfold DelV at h
    rw [e, HQ4.out.heap] at h; cases h)).trans HD4.out)
  have HM6 := Lib.hid (show MineAt w6 Am n 0 W4.heap.size b from fun h0 => by
    obtain ⟨g, cur, e, hg, hh, hc⟩ := HM0.out h0
    have hs := ht6k g hg (fun e => by rw [e, HQ4.out.heap] at hh; cases hh)
    exact ⟨g, cur, e, hg, hs.trans hh, fun j h1 hj => (World.cell?_of_block (a := ⟨g, j, none⟩) hs).trans (hc j h1 hj)⟩)
  clear hq6 hY1 hY2 hY3 ht6 hv6 hfx ht6k HSUB HM0 HD4
  go_wp2_with fail
  go_loopw [11] (fun v11 wr => ∃ (i : Nat), v11 = .int .i64 i ∧ i ≤ n ∧ Hid (QueueAt w.heap.size wr qb hb ab 3 v6 [Y] []) ∧ Hid (Below w1.heap.size w1 wr) ∧ Hid (MineAt wr Am n i W4.heap.size b) ∧ Hid (DelV wr d1 (.int .i64 1) (.string ⟨#[97]⟩) (.slice Am n cm))) (fun v11 _ => n - (intOf v11).toNat)
  case atStart => exact ⟨0, rfl, Nat.zero_le _, HQ6, HB6, HM6, HD6⟩
  case round =>
    clear HQ6 HB6 HM6 HD6
    obtain ⟨i, rfl, hi, HQ, HB, HMI, HD⟩ := hrel
    by_cases hlt : i < n
    · have k2 : (i : Int) < (n : Int) := by omega
      obtain ⟨g, cur, e, hg, hh, hc⟩ := HMI.out (by omega)
      obtain ⟨z, hz⟩ : ∃ z : Int, (numsB b).getD i 0 = z := ⟨_, rfl⟩
      have c1 := hc i (Nat.le_refl _) hlt
      rw [hz] at c1
      have f1 : wr.frozen? ⟨g, i, none⟩ = false := frozen_of_row wr g i _ _ hh
      have hgq : g ≠ qb := fun e => by rw [e, HQ.out.heap] at hh; cases hh
      have hga : g ≠ ab := fun e => by
        obtain ⟨es, ck, hm', _⟩ := HQ.out.ans
        rw [e, hm'] at hh; cases hh
      have hgv : v6.ownBlock ≠ some g := fun e => by
        obtain ⟨_, cur2, hy⟩ := HQ.out.waits.far e
        rw [hy] at hh; cases hh
      have hgd : g ≠ d1 := fun e => by
        have h := HD.out
        unfold DelV at h
        rw [← e, hh] at h; cases h
      have hg1 : w1.heap.size ≤ g := Nat.le_trans HB2.out.size (HFA.out _ e)
      have HKS := Lib.hid (fun (u : Value) => show QueueAt w.heap.size (wr.setCell ⟨g, i, none⟩ u) qb hb ab 3 v6 [Y] [] ∧ Below w1.heap.size w1 (wr.setCell ⟨g, i, none⟩ u) ∧ MineAt (wr.setCell ⟨g, i, none⟩ u) Am n (i + 1) W4.heap.size b ∧ DelV (wr.setCell ⟨g, i, none⟩ u) d1 (.int .i64 1) (.string ⟨#[97]⟩) (.slice Am n cm) from
        ⟨HQ.out.setFar HFX.out hg hgq hga hgv (fun j _ _ hj => heap_setCell_other wr ⟨g, i, none⟩ j _ hj), HB.out.setCell (p := ⟨g, i, none⟩) hg1 _, fun _ => ⟨g, _, e, hg, heap_setCell_same wr g i _ _ u hh, fun j h1 hj => (World.cell?_setCell_other (w := wr) (a := ⟨g, i, none⟩) (b := ⟨g, j, none⟩) (v := u) (fun e => by
          have e2 := congrArg Addr.off e
          simp only at e2
          omega)).trans (hc j (by omega) hj)⟩, (heap_setCell_other wr ⟨g, i, none⟩ d1 _ (Ne.symm hgd)).trans HD.out⟩)
      have HE := Lib.hid e
      subst e
      clear hg hh hc hz hgq hga hgv hgd hg1 HE
      go_wp2_with fail
      go_roundw
      case rel =>
        obtain ⟨h1, h2, h3, h4⟩ := HKS.out _
        exact ⟨i + 1, by go_num, by omega, Lib.hid h1, Lib.hid h2, Lib.hid h3, Lib.hid h4⟩
      case measure => simp [intOf]; omega
    · have k2 : ¬ (i : Int) < (n : Int) := by omega
      obtain ⟨x0, x1, x2, x3, x4, x5⟩ := HD.out.facts
      obtain ⟨dv, gr⟩ := HD.out.store (x' := .int .i64 1) (y' := .string ⟨#[98]⟩) (z' := .slice B m d)
      obtain ⟨W7, hW7⟩ : ∃ W, ((wr.setCell ⟨d1, 0, none⟩ (.int .i64 1)).setCell ⟨d1, 1, none⟩ (.string ⟨#[98]⟩)).setCell ⟨d1, 2, none⟩ (.slice B m d) = W := ⟨_, rfl⟩
      rw [hW7] at dv gr
      have hq7 : QueueAt w.heap.size W7 qb hb ab 3 v6 [Y] [] := HQ.out.setFar HFX.out HS4.out (fun e => by
        have h := HD.out
        unfold DelV at h
        rw [e, HQ.out.heap] at h; cases h) (fun e => by
        obtain ⟨es, ck, hm', _⟩ := HQ.out.ans
        have h := HD.out
        unfold DelV at h
        rw [e, hm'] at h; cases h) (fun e => by
        obtain ⟨_, cur2, hy⟩ := HQ.out.waits.far e
        have h := HD.out
        unfold DelV at h
        rw [hy] at h; cases h) (fun j o hj hne => gr.block j (Array.getElem?_eq_some_iff.1 hj).1 (by simpa using hne))
      have hb7 : Below w1.heap.size w1 W7 := HB.out.grown gr HB.out.size (fun j e => by
        cases e
        have h1 := HD1.out
        have h2 := HS2.out
        omega)
      have hbw7 := HB1.out.trans (hb7.mono HB1.out.size)
      have hst := step_any w hq7 (HH1.out.below hb7) HNE.out hbw7 true (by omega) (by simp) (by simp) HM.out (by rw [HY.out.1]; exact key_int 7 (by omega) (by omega))
      have HST := Lib.hid hst
      have HB7 := Lib.hid hbw7
      have HW7 := Lib.hid hW7
      clear dv gr hq7 hb7 hbw7 hst hW7 hlt
      go_upto_region 13 with fail
      rw [HW7.out]
      clear x0 x1 x2 x3 x4 x5 k2
      go_wp2_with fail
      refine HST.out.mono ?_
      rintro e wA ⟨a, vA, rfl, -, hstA, hbwA, -, -⟩
      have hnm : flsX nm = [] := HMD.out.2
      have hap : applyT (flsX nm) (Y.l.map DX.dl) = .ok [([97], b)] := by rw [hnm, HY.out.2.2]; exact apply_one b (by rw [HN.out]; omega)
      have ha : a = ⟨7, 1, 1, 0⟩ ∧ ∃ nm M nv cv k D G, HistAt w.heap.size wA hb 1 nm M nv cv mb k D ((G, Y.l) :: [(G0, l0)]) := by
        rcases hstA with ⟨⟨h, _⟩ | ⟨_, h, _⟩ | ⟨_, _, q, _, h, _⟩, _⟩ | ⟨_, _, h, nm', nv', cv', k', D', G', _, h2⟩
        · rw [HY.out.2.1, late_le HH1.out.le] at h; cases h
        · cases h
        · rw [hap] at h; cases h
        · exact ⟨by rw [h, HY.out.1]; rfl, nm', _, nv', cv', k', D', G', h2⟩
      obtain ⟨rfl, nmA, MA, nvA, cvA, kA, DA, GA, hHA⟩ := ha
      have hit : IsTree ((GA, Y.l) :: [(G0, l0)]) 1 [([97], b)] := by
        obtain ⟨f1, h4, h5, _⟩ := commit_tree (G := GA) (L := Y.l) (H := [(G0, l0)]) (t := []) (by simp) (by rfl) (first_is (right_sorted (by rfl)) HMD.out.1) (f := [([97], b)]) (by rw [HY.out.2.2]; exact apply_one b (by rw [HN.out]; omega))
        rw [HY.out.2.2, apply_one b (by rw [HN.out]; omega)] at h4
        cases h4
        exact h5
      simp only [AX.v]
      obtain ⟨b12, hb12⟩ : ∃ b, wA.heap.size = b := ⟨_, rfl⟩
      obtain ⟨W12, hW12⟩ : ∃ W, wA.alloc (.cells #[.int .i64 0, .int .i64 0, .int .i64 0, .int .i64 0] 46) = W := ⟨_, rfl⟩
      have a12 : AnsB W12 b12 noA := by unfold AnsB; rw [← hW12, ← hb12]; exact heap_alloc_new _ _
      have hbl12 : Below wA.heap.size wA W12 := by rw [← hW12]; exact (Below.refl _ _).alloc (Nat.le_refl _) _
      obtain ⟨a12s, g12⟩ := a12.store ⟨7, 1, 1, 0⟩
      simp only at a12s g12
      obtain ⟨V12, hV12⟩ : ∃ W, (((W12.setCell ⟨b12, 0, none⟩ (.int .i64 7)).setCell ⟨b12, 1, none⟩ (.int .i64 1)).setCell ⟨b12, 2, none⟩ (.int .i64 1)).setCell ⟨b12, 3, none⟩ (.int .i64 0) = W := ⟨_, rfl⟩
      rw [hV12] at a12s g12
      have hbm12 : Below wA.heap.size wA V12 := hbl12.grown g12 hbl12.size (fun j e => by cases e; omega)
      obtain ⟨z0, z1, z2, z3, z4, z5, z6, z7⟩ := a12.facts
      simp only [noA] at z0 z1 z2 z3
      have HV12 := Lib.hid hV12
      have A12 := Lib.hid a12s
      clear a12 hbl12 hV12 g12 a12s
      have HAT := Lib.hid (hat_any (hHA.below hbm12) (r := 1) (Nat.le_refl _) (by omega))
      have HBV := Lib.hid ((HB7.out.trans hbwA).trans (hbm12.mono (HB7.out.trans hbwA).size))
      have HIT := Lib.hid hit
      clear hstA hbwA hnm hap hHA hit hbm12 HST
      go_upto_region 14 with fail
      rw [HV12.out]
      clear z0 z1 z2 z3 z4 z5 z6 z7 hW12 hb12
      go_wp2_with fail
      refine HAT.out.mono ?_
      rintro e wB ⟨vB, lB, rfl, htB, hiB, hlB, hbB⟩
      have hlf : flsX lB = [([97], b)] := isTree_unique hiB HIT.out fun _ => rfl
      obtain ⟨x, rfl⟩ : ∃ x, lB = [x] := by
        have := congrArg List.length hlf
        rw [flsX_length] at this
        exact List.length_eq_one_iff.1 this
      obtain ⟨p, Ax, cx, bx⟩ := x
      obtain ⟨hp, hbe⟩ : p.data.toList = [97] ∧ bx = b := by
        have h1 : ([⟨p, Ax, cx, bx⟩] : List FX).map FX.fl = [([97], b)] := hlf
        simp only [List.map_cons, List.map_nil, List.cons.injEq, and_true] at h1
        exact ⟨congrArg Prod.fst h1, congrArg Prod.snd h1⟩
      subst hbe
      obtain rfl : p = ⟨#[97]⟩ := by
        cases p
        congr 1
        exact Array.toList_inj.1 hp
      obtain ⟨gB, cB, hvB, r0, r1⟩ : ∃ gB cB, vB = .slice (some ⟨gB, 0, none⟩) 1 cB ∧ wB.cell? ⟨gB, 0, none⟩ = some (.string ⟨#[97]⟩) ∧ wB.cell? ⟨gB, 1, none⟩ = some (.slice Ax bx.length cx) := by
        rcases htB.own.form with ⟨_, h⟩ | ⟨g, cap, cur, h, _⟩
        · cases h
        · subst h
          obtain ⟨h1, h2⟩ := htB.own.rowF 0 _ rfl
          exact ⟨g, cap, rfl, by simpa using h1, by simpa using h2⟩
      subst hvB
      have hbx := (htB.bod ⟨⟨#[97]⟩, Ax, cx, bx⟩ (by simp)).at_
      have hsm := samebytes_any bx bx Ax A cx c wB hbx (HA.out.below (HBV.out.trans (hbB.mono HBV.out.size)))
      rw [HN.out] at hsm r1
      rw [show (bx == bx) = true by simp] at hsm
      have HSM := Lib.hid hsm
      have HBB := Lib.hid (HBV.out.trans (hbB.mono HBV.out.size))
      obtain ⟨y0, y1, y2, y3, -, -, -, -⟩ := (show AnsB wB b12 ⟨7, 1, 1, 0⟩ from row_belowQ A12.out hbB).facts
      simp only at y0 y1 y2 y3
      clear htB hiB hlB hbB hlf hp hbx hsm
      go_wp2_with fail
      refine HSM.out.mono ?_
      rintro e wC ⟨rfl, hbC⟩
      have HBC := Lib.hid (HBB.out.trans (hbC.mono HBB.out.size))
      clear hbC
      go_wp2_with fail
      refine (qlong_nil wC).mono ?_
      rintro e wq ⟨rfl, hwq⟩
      have hwq := hwq.symm
      subst hwq
      go_wp2_with fail
      refine (HKN.out wC HBC.out).mono ?_
      rintro e wk ⟨rfl, hbk⟩
      have HBK := Lib.hid (show Below w.heap.size w wk from HBC.out.trans (hbk.mono HBC.out.size))
      clear hbk
      go_wp2_with fail
      go_ret
      exact ⟨rfl, HBK.out⟩
end Go.Proofs.YtnkfnmkbfnhmfaaGreatDoor
