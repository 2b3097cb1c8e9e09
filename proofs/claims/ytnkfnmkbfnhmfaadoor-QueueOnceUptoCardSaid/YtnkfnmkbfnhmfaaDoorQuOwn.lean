/-
  The queue's own: a request with changes, and bytes, of its own. (gen_quown.py)
-/
import Derived.Test.YtnkfnmkbfnhmfaaDoorQuSmall
import Derived.Test.YtnkfnmkbfnhmfaaDoorLast
namespace Go.Proofs.YtnkfnmkbfnhmfaaDoor
open Go Go.RowKit Go.Shelf Go.Proofs Go.ChangeMaps Go.Maps Go.WideMaps
attribute [local go_sem] Oper.semAt_some

theorem DelsAt.cellsQ {w : World} {A : Option Addr} {c : Nat} {l : List DX} (h : DelsAt w A c l) {a : Addr} (hA : A = some a) : ∀ j u, (dcells l)[j]? = some u → w.cell? (a.add j) = some u := by
  intro j u hj
  have hlt := (List.getElem?_eq_some_iff.1 hj).1
  rw [dcells_length] at hlt
  have hi : j / 3 < l.length := by omega
  obtain ⟨x, hx⟩ : ∃ x, l[j / 3]? = some x := ⟨_, List.getElem?_eq_getElem hi⟩
  obtain ⟨a0, a1, a2⟩ := dcells_at l (j / 3) x hx
  obtain ⟨g, o, e, hr⟩ := h.row (by omega)
  rw [hA] at e
  cases e
  obtain ⟨b0, b1, b2⟩ := hr (j / 3) x hx
  rw [Go.WideShapes.add_plain]
  have hr : j % 3 < 3 := by omega
  have key : j = j / 3 * 3 + j % 3 := by omega
  generalize j % 3 = r at *
  generalize j / 3 = i at *
  subst key
  match r, hr with
  | 0, _ => rw [Nat.add_zero] at hj ⊢; rw [a0] at hj; rw [← hj]; exact b0
  | 1, _ => rw [a1] at hj; rw [← hj]; exact b1
  | 2, _ => rw [a2] at hj; rw [← hj]; exact b2
set_option maxRecDepth 100000 in
set_option maxHeartbeats 4000000 in
/-- slices.Clone of changes. -/
theorem dclone_any (l : List DX) (A : Option Addr) (c : Nat) (w : World) (h : DelsAt w A c l) (hl : l.length ≤ 100000) (h0 : 0 < l.length) :
    Calls Tryd.prog 47 #[.slice A l.length c] w fun e w' => ∃ v', e = .returned v' ∧ w'.ownsRow w.heap.size 51 3 v' l.length (dcells l) ∧ Below w.heap.size w w' := by
  obtain ⟨i0, hi, hz0, hz1, hz2⟩ := info_parts delta_info
  obtain ⟨g, o, rfl, -⟩ := h.row h0
  have hcs := h.cellsQ rfl
  have HCS := Lib.hid hcs; clear hcs
  have HI := Lib.hid hi; clear hi
  have q := fun (w : World) (a : Option Addr) (n c n' c' : Nat) => Lib.run_eql_slice_nil (P := Tryd.prog) w 40 51 a n c n' c' Tryd.underlying40
  clear h
  go_enter Tryd.func47, Tryd.ntmps47
  go_wp2_with (at_builtin; refine wpList_append_own _ rfl _ _ 40 rfl w.heap.size 51 i0 (.agg #[.int .i64 0, .string ⟨#[]⟩, .slice none 0 0]) 3 48 Tryd.underlying40 HI.out hz0 hz1 hz2 rfl (by decide) _ _ _ rfl (World.ownsRow_made w #[] 0 (Nat.le_refl _) (Nat.zero_le _) rfl) ⟨g, o, none⟩ l.length c (dcells l) rfl (dcells_length l) ?qc2 (dcells_one l) ?qc4 ?qc5 ?qc6 ?_)
  case qc2 => intro j u hj; exact Lib.cell?_alloc_some _ (HCS.out j u hj)
  case qc4 => unfold maxLen; omega
  case qc5 => omega
  case qc6 => simp
  intro v' w1 hown hgrow _
  go_wp2_with fail
  go_ret
  exact ⟨v', rfl, by simpa using hown, ((Below.refl _ w).alloc (Nat.le_refl _) _).grown hgrow (by simp) (by intro k hk; simp [Value.ownBlock] at hk; omega)⟩
/-- In the loop: the first k have bytes of their own. -/
structure QOwn (base : Nat) (l : List DX) (v : Value) (w : World) (k : Nat) (wr : World) (m : List DX) : Prop where
  own : wr.ownsRow base 51 3 v m.length (dcells m)
  len : m.length = l.length
  same : m.map DX.dl = l.map DX.dl
  rest : m.drop k = l.drop k
  bod : ∀ j x, j < k → m[j]? = some x → BytesOwn wr x.A x.b
  bel : Below base w wr
theorem dcells_set (l : List DX) (i : Nat) (x : DX) (A' : Option Addr) (c' : Nat) (hx : l[i]? = some x) : (dcells l).set (i * 3 + 2) (.slice A' x.b.length c') = dcells (l.set i { x with A := A', c := c' }) := by
  induction l generalizing i with
  | nil => simp at hx
  | cons y l ih =>
    cases i with
    | zero =>
      simp at hx; subst hx
      rfl
    | succ i =>
      rw [List.set_cons_succ]
      show (_ :: _ :: _ :: dcells l).set _ _ = _ :: _ :: _ :: dcells _
      rw [show (i + 1) * 3 + 2 = i * 3 + 2 + 1 + 1 + 1 from by omega, List.set_cons_succ, List.set_cons_succ, List.set_cons_succ, ih i (by simpa using hx)]
theorem QOwn.next {base : Nat} {l : List DX} {g n c : Nat} {w wr w2 : World} {k : Nat} {m : List DX} {x : DX} {A' : Option Addr} {c' : Nat} (h : QOwn base l (.slice (some ⟨g, 0, none⟩) n c) w k wr m) (hn : n = m.length) (hx : m[k]? = some x) (hb : Below wr.heap.size wr w2) (hbo : BytesOwn w2 A' x.b) (hbw : base ≤ wr.heap.size) :
    QOwn base l (.slice (some ⟨g, 0, none⟩) n c) w (k + 1) (w2.setCell ⟨g, k * 3 + 2, none⟩ (.slice A' x.b.length c')) (m.set k { x with A := A', c := c' }) := by
  subst hn
  have hkl := (List.getElem?_eq_some_iff.1 hx).1
  have hrow2 : w2.ownsRow base 51 3 (.slice (some ⟨g, 0, none⟩) m.length c) m.length (dcells m) := h.own.kept (row := none) (grownB hb) (.inr (by simp [Value.ownBlock]))
  obtain ⟨hgb, cur, hh⟩ := rowT_ge hrow2 (g := g) rfl
  have hkeep : ∀ {A : Option Addr} {b : Bs} (u : Value), BytesOwn w2 A b → BytesOwn (w2.setCell ⟨g, k * 3 + 2, none⟩ u) A b := fun u hb' => hb'.keep fun q cur' hq => Below.heap_setCell _ _ _ _ (fun e => by
    have e : q = g := e
    subst e
    rw [hh] at hq; cases hq)
  have h1 := (World.ownsRow.stored hrow2 (k * 3 + 2) (.slice A' x.b.length c')).1
  rw [dcells_set m k x A' c' hx] at h1
  refine ⟨by rw [List.length_set]; exact h1, by rw [List.length_set]; exact h.len, ?_, ?_, fun j y hj hy => ?_, (h.bel.trans (hb.mono hbw)).setCell (p := ⟨g, k * 3 + 2, none⟩) hgb _⟩
  · rw [← h.same, List.map_set]
    have e : (m.map DX.dl)[k]? = some x.dl := by rw [List.getElem?_map, hx]; rfl
    obtain ⟨hl2, he2⟩ := List.getElem?_eq_some_iff.1 e
    show (m.map DX.dl).set k x.dl = _
    rw [← he2, List.set_getElem_self]
  · rw [List.drop_set_of_lt (by omega), ← List.drop_drop, h.rest, List.drop_drop]
  · by_cases e : j = k
    · subst e
      rw [List.getElem?_set_self hkl] at hy
      cases hy
      exact hkeep _ hbo
    · rw [List.getElem?_set_ne (by omega)] at hy
      exact hkeep _ ((h.bod j y (by omega) hy).below hb)
theorem request_cells : Tryd.prog.cellsOf 42 = 3 := by kernel_rfl
set_option maxRecDepth 100000 in
set_option maxHeartbeats 8000000 in
theorem qown_any (x : QX) (w : World) (h : DelsAt w x.A x.c x.l) (hs : SmallD x.l) (h0 : 0 < x.l.length) :
    Calls Tryd.prog 31 #[x.v] w fun e w' => ∃ y : QX, e = .returned y.v ∧ y.id = x.id ∧ y.base = x.base ∧ y.l.map DX.dl = x.l.map DX.dl ∧ DeltasAt w.heap.size w' (.slice y.A y.l.length y.c) y.l ∧ Below w.heap.size w w' := by
  obtain ⟨id, bs, A, c, l⟩ := x
  unfold QX.v
  simp only at h hs h0
  obtain ⟨n, hn⟩ : ∃ n, l.length = n := ⟨_, rfl⟩
  obtain ⟨b1, hb1⟩ : ∃ b, w.heap.size = b := ⟨_, rfl⟩
  obtain ⟨W1, hW1⟩ : ∃ W, w.alloc (.cells #[.int .i64 id, .int .i64 bs, .slice A n c] 42) = W := ⟨_, rfl⟩
  have s1 : W1.heap.size = b1 + 1 := by rw [← hW1, ← hb1]; simp
  obtain ⟨W2, hW2⟩ : ∃ W, W1.alloc (.cells #[.int .i64 0, .int .i64 0, .slice none 0 0] 42) = W := ⟨_, rfl⟩
  have s2 : W2.heap.size = b1 + 2 := by rw [← hW2]; simp [s1]
  have g1 : W2.heap[b1]? = some (.cells #[.int .i64 id, .int .i64 bs, .slice A n c] 42 (0, 0)) := by
    rw [← hW2]
    refine (Below.heap_alloc _ _ _ (by omega)).trans ?_
    rw [← hW1, ← hb1]; exact heap_alloc_new _ _
  have g2 : W2.heap[b1 + 1]? = some (.cells #[.int .i64 0, .int .i64 0, .slice none 0 0] 42 (0, 0)) := by rw [← hW2, ← s1]; exact heap_alloc_new _ _
  have hb2 : Below w.heap.size w W2 := by rw [← hW2, ← hW1]; exact ((Below.refl _ _).alloc (Nat.le_refl _) _).alloc (by simp) _
  have hcl := dclone_any l A c W2 (h.below hb2) (by have := hs.1; omega) h0
  rw [hn] at hcl
  have HCL := Lib.hid hcl
  have HS := Lib.hid hs
  have HB := Lib.hid (fun (y : DX) (hy : y ∈ l) => h.bytes y hy)
  have HN := Lib.hid hn
  have HG2 := Lib.hid g2
  have HB2 := Lib.hid hb2
  have HG1 := Lib.hid g1
  have HW1 := Lib.hid hW1
  have HW2 := Lib.hid hW2
  have HB1 := Lib.hid hb1
  have HS2 := Lib.hid s2
  have c2 := cell_of_row W2 b1 2 _ _ _ g1
  simp only [List.getElem?_toArray, List.getElem?_cons_zero, List.getElem?_cons_succ] at c2
  rw [hn] at h0
  clear h hs hcl g2 hb2 g1 hW1 hW2 hb1
  rw [hn]
  go_enter Tryd.func31, Tryd.ntmps31
  go_upto_region 1 with fail
  rw [HB1.out, HW1.out, HW2.out]
  go_wp2_with fail
  refine HCL.out.mono ?_
  rintro e w3 ⟨v3, rfl, ho3, hb3⟩
  obtain ⟨g, c1, rfl, hg3, hcc⟩ : ∃ g c1, v3 = .slice (some ⟨g, 0, none⟩) n c1 ∧ W2.heap.size ≤ g ∧ True := by
    rcases ho3.2 with ⟨_, e⟩ | ⟨g, cap, cur, e, hbg, _⟩
    · omega
    · exact ⟨g, cap, e, hbg, trivial⟩
  have g13 := (hb3.block b1 (by rw [HS2.out]; omega)).trans HG1.out
  have g23 := (hb3.block (b1 + 1) (by rw [HS2.out]; omega)).trans HG2.out
  have e2 : w3.cell? ⟨b1, 2, none⟩ = some (.slice A n c) := cell_of_row w3 b1 2 _ _ _ g13
  have f2 : w3.frozen? ⟨b1, 2, none⟩ = false := frozen_of_row w3 b1 2 _ _ g13
  have hS2 := HS2.out
  have hgb : g ≠ b1 := by omega
  have hgb2 : g ≠ b1 + 1 := by omega
  obtain ⟨W4, hW4⟩ : ∃ W, w3.setCell ⟨b1, 2, none⟩ (.slice (some ⟨g, 0, none⟩) n c1) = W := ⟨_, rfl⟩
  have o4 : ∀ j, j ≠ b1 → W4.heap[j]? = w3.heap[j]? := fun j hj => by rw [← hW4]; exact heap_setCell_other w3 ⟨b1, 2, none⟩ j _ hj
  have g14 : W4.heap[b1]? = some (.cells #[.int .i64 id, .int .i64 bs, .slice (some ⟨g, 0, none⟩) n c1] 42 (0, 0)) := by rw [← hW4]; exact heap_setCell_same w3 b1 2 _ _ _ g13
  have g24 := (o4 (b1 + 1) (by omega)).trans g23
  have ho4 : W4.ownsRow (b1 + 2) 51 3 (.slice (some ⟨g, 0, none⟩) n c1) n (dcells l) := by
    rw [← hS2]
    exact ⟨ho3.1, ho3.2.imp (fun h => h) fun ⟨g', cap, cur, hv, hb, hg, r⟩ => ⟨g', cap, cur, hv, hb, (o4 g' (by omega)).trans hg, r⟩⟩
  have hs4 : w3.heap.size = W4.heap.size := by rw [← hW4]; simp [World.setCell]
  have hb4 : Below w.heap.size w W4 := by
    rw [← hW4]
    exact (HB2.out.trans (hb3.mono HB2.out.size)).setCell (p := ⟨b1, 2, none⟩) (by rw [HB1.out]; exact Nat.le_refl _) _
  have hsz3 := hb3.size
  have HW4 := Lib.hid hW4
  have HI0 := Lib.hid (show QOwn (b1 + 2) l (.slice (some ⟨g, 0, none⟩) n c1) W4 0 W4 l from ⟨by rw [HN.out]; exact ho4, rfl, rfl, rfl, fun j x hj => absurd hj (Nat.not_lt_zero _), Below.refl _ _⟩)
  have HG4 := Lib.hid g14
  have HG24 := Lib.hid g24
  have HB4 := Lib.hid hb4
  have hnm : n ≤ 10000 := by have := HS.out.1; rw [HN.out] at this; exact this
  clear ho3 hb3 g13 g23 o4 g14 g24 ho4 hb4 hW4 c2
  go_upto_region 2 with fail
  rw [HW4.out]
  have cb0 : W4.cell? ⟨b1, 2, none⟩ = some (.slice (some ⟨g, 0, none⟩) n c1) := cell_of_row W4 b1 2 _ _ _ HG4.out
  go_wp2_with fail
  clear cb0
  go_loopw [3, 11] (fun _ s11 wr => ∃ (k : Nat) (m : List DX), k ≤ n ∧ s11 = .int .i64 k ∧ Hid (QOwn (b1 + 2) l (.slice (some ⟨g, 0, none⟩) n c1) W4 k wr m)) (fun _ s11 _ => n - (intOf s11).toNat)
  case atStart => exact ⟨0, l, Nat.zero_le _, rfl, HI0.out⟩
  case round =>
    obtain ⟨k, m, hk, rfl, HI⟩ := hrel
    have hml : m.length = n := HI.out.len.trans HN.out
    by_cases hlt : k < n
    · obtain ⟨x, hx⟩ : ∃ x, m[k]? = some x := ⟨_, List.getElem?_eq_getElem (by rw [hml]; exact hlt)⟩
      have hlx : l[k]? = some x := by rw [← List.head?_drop, ← HI.out.rest, List.head?_drop, hx]
      have hbr := HI.out.bel
      have hb1l : b1 < wr.heap.size := by have := hbr.size; omega
      have cb : wr.cell? ⟨b1, 2, none⟩ = some (.slice (some ⟨g, 0, none⟩) n c1) := cell_of_row wr b1 2 _ _ _ ((hbr.block b1 (by omega)).trans HG4.out)
      have hown := HI.out.own
      rw [hml] at hown
      obtain ⟨_, cur, hgc⟩ := rowT_ge hown (g := g) rfl
      have ck : wr.cell? ⟨g, k * 3 + 2, none⟩ = some (.slice x.A x.b.length x.c) := by
        have := World.ownsRow.cells hown (g := g) rfl _ _ (dcells_at m k x hx).2.2
        rwa [Go.WideShapes.add_plain, Nat.zero_add] at this
      have fk : wr.frozen? ⟨g, k * 3 + 2, none⟩ = false := frozen_of_row wr g _ _ _ hgc
      have hgl : g < wr.heap.size := (Array.getElem?_eq_some_iff.1 hgc).1
      have hxm := List.mem_of_getElem? hlx
      have hbw := HB4.out.trans (hbr.mono (by rw [HB1.out]; omega))
      have hxb : BytesAt wr x.A x.b := (HB.out x hxm).below hbw
      have HC := bclone_any x.A x.c x.b wr.drew (hxb.below (Below.refl _ _).drew) (HS.out.2 x hxm).2
      obtain ⟨nb, hnb⟩ : ∃ nb, x.b.length = nb := ⟨_, rfl⟩
      obtain ⟨xA, hxA⟩ : ∃ A, x.A = A := ⟨_, rfl⟩
      obtain ⟨xc, hxc⟩ : ∃ c, x.c = c := ⟨_, rfl⟩
      rw [hxA, hxc, hnb] at ck
      rw [hxA, hxc] at HC
      rw [hnb] at HC
      have HC := Lib.hid HC
      have HNB := Lib.hid hnb
      have q1 : (k : Int) < (n : Int) := by omega
      have HX := Lib.hid hx
      have HML := Lib.hid hml
      have hb2l : b1 + 2 ≤ wr.heap.size := by have := hbr.size; omega
      have hHeld := (show _ ∧ _ from ⟨cb, ck⟩)
      clear hx hlx hbr hown hgc hxm hbw hxb hnb hxA hxc hml
      go_wp2_with fail
      refine wp_region_last (fun w' => w'.cell? ⟨b1, 2, none⟩ = some (.slice (some ⟨g, 0, none⟩) n c1) ∧ w'.cell? ⟨g, k * 3 + 2, none⟩ = some (.slice xA nb xc)) 12 (by kernel_rfl) ?_
      refine wpAnyL_take (i := 0) (v := ?vu0) rfl (by kernel_rfl) (by kernel_rfl) (by kernel_rfl) (by kernel_rfl) (by kernel_rfl) (fun _ _ _ h => h) hHeld (Or.inl ⟨by rfl, ?yu0⟩) ?ru0
      case yu0 =>
        intro w hSw
        (try dsimp only at hSw)
        go_simp
        first | done | with_reducible rfl
      try simp only [Act.put, List.getElem_toArray, List.getElem_cons_zero, List.setIfInBounds_toArray, List.set_cons_zero, List.set_cons_succ]
      refine wpAnyL_take (i := 1) (v := ?vu1) rfl (by kernel_rfl) (by kernel_rfl) (by kernel_rfl) (by kernel_rfl) (by kernel_rfl) (fun _ _ _ h => h) hHeld (Or.inl ⟨by rfl, ?yu1⟩) ?ru1
      case yu1 =>
        intro w hSw
        (try dsimp only at hSw)
        go_simp
        first | done | with_reducible rfl
      try simp only [Act.put, List.getElem_toArray, List.getElem_cons_zero, List.getElem_cons_succ, List.setIfInBounds_toArray, List.set_cons_zero, List.set_cons_succ]
      refine wpAnyL_take (i := 2) (v := ?vu2) rfl (by kernel_rfl) (by kernel_rfl) (by kernel_rfl) (by kernel_rfl) (by kernel_rfl) (fun _ _ _ h => h) hHeld (Or.inl ⟨by rfl, ?yu2⟩) ?ru2
      case yu2 =>
        intro w hSw
        (try dsimp only at hSw)
        go_simp
        first | done | with_reducible rfl
      try simp only [Act.put, List.getElem_toArray, List.getElem_cons_zero, List.getElem_cons_succ, List.setIfInBounds_toArray, List.set_cons_zero, List.set_cons_succ]
      refine wpAnyL_take (i := 3) (v := ?vu3) rfl (by kernel_rfl) (by kernel_rfl) (by kernel_rfl) (by kernel_rfl) (by kernel_rfl) (fun _ _ _ h => h) hHeld (Or.inl ⟨by rfl, ?yu3⟩) ?ru3
      case yu3 =>
        intro w hSw
        (try dsimp only at hSw)
        go_simp
        first | done | with_reducible rfl
      try simp only [Act.put, List.getElem_toArray, List.getElem_cons_zero, List.getElem_cons_succ, List.setIfInBounds_toArray, List.set_cons_zero, List.set_cons_succ]
      refine wpAnyL_take (i := 4) (v := ?vu4) rfl (by kernel_rfl) (by kernel_rfl) (by kernel_rfl) (by kernel_rfl) (by kernel_rfl) (fun _ _ _ h => h) hHeld (Or.inl ⟨by rfl, ?yu4⟩) ?ru4
      case yu4 =>
        intro w hSw
        (try dsimp only at hSw)
        go_simp
        first | done | with_reducible rfl
      try simp only [Act.put, List.getElem_toArray, List.getElem_cons_zero, List.getElem_cons_succ, List.setIfInBounds_toArray, List.set_cons_zero, List.set_cons_succ]
      refine wpAnyL_take (i := 5) (v := ?vu5) rfl (by kernel_rfl) (by kernel_rfl) (by kernel_rfl) (by kernel_rfl) (by kernel_rfl) (fun _ _ _ h => h) hHeld (Or.inl ⟨by rfl, ?yu5⟩) ?ru5
      case yu5 =>
        intro w hSw
        (try dsimp only at hSw)
        go_simp
        first | done | with_reducible rfl
      try simp only [Act.put, List.getElem_toArray, List.getElem_cons_zero, List.getElem_cons_succ, List.setIfInBounds_toArray, List.set_cons_zero, List.set_cons_succ]
      refine wpAnyL_take (i := 6) (v := ?vu6) rfl (by kernel_rfl) (by kernel_rfl) (by kernel_rfl) (by kernel_rfl) (by kernel_rfl) (fun _ _ _ h => h) hHeld (Or.inl ⟨by rfl, ?yu6⟩) ?ru6
      case yu6 =>
        intro w hSw
        (try dsimp only at hSw)
        go_simp
        first | done | with_reducible rfl
      try simp only [Act.put, List.getElem_toArray, List.getElem_cons_zero, List.getElem_cons_succ, List.setIfInBounds_toArray, List.set_cons_zero, List.set_cons_succ]
      refine wpAnyL_take (i := 7) (v := ?vu7) rfl (by kernel_rfl) (by kernel_rfl) (by kernel_rfl) (by kernel_rfl) (by kernel_rfl) (fun _ _ _ h => h) hHeld (Or.inl ⟨by rfl, ?yu7⟩) ?ru7
      case yu7 =>
        intro w hSw
        (try dsimp only at hSw)
        go_simp
        first | done | with_reducible rfl
      try simp only [Act.put, List.getElem_toArray, List.getElem_cons_zero, List.getElem_cons_succ, List.setIfInBounds_toArray, List.set_cons_zero, List.set_cons_succ]
      refine wpAnyL_take (i := 8) (v := ?vu8) rfl (by kernel_rfl) (by kernel_rfl) (by kernel_rfl) (by kernel_rfl) (by kernel_rfl) (fun _ _ _ h => h) hHeld (Or.inl ⟨by rfl, ?yu8⟩) ?ru8
      case yu8 =>
        intro w hSw
        (try dsimp only at hSw)
        go_simp
        first | done | with_reducible rfl
      try simp only [Act.put, List.getElem_toArray, List.getElem_cons_zero, List.getElem_cons_succ, List.setIfInBounds_toArray, List.set_cons_zero, List.set_cons_succ]
      refine wpAnyL_one (i := 9) (by kernel_rfl) rfl rfl (fun K hK => ?_)
      go_simp
      refine HC.out.mono ?_
      rintro e w2 ⟨A', c', rfl, ho, hb2⟩
      have hbd := (Below.refl wr.heap.size wr).drew.trans hb2
      have e1 := (hbd.cell (p := ⟨b1, 2, none⟩) hb1l).trans cb
      have e2 := (hbd.cell (p := ⟨g, k * 3 + 2, none⟩) hgl).trans ck
      have e3 := (hbd.frozen (p := ⟨g, k * 3 + 2, none⟩) hgl).trans fk
      have HO := Lib.hid ho
      have HB2 := Lib.hid hbd
      have hHeld := (show _ ∧ _ from ⟨e1, e2⟩)
      clear ho hb2 hbd
      refine hK.out _ _ (fun _ => hHeld) ?_
      clear hK K
      try simp only [Act.put, List.getElem_toArray, List.getElem_cons_zero, List.getElem_cons_succ, List.setIfInBounds_toArray, List.set_cons_zero, List.set_cons_succ]
      refine wpAnyL_one (i := 10) (by kernel_rfl) rfl rfl (fun K hK => ?_)
      go_simp
      refine hK.out _ _ (fun _ => hHeld) ?_
      clear hK K
      try simp only [Act.put, List.getElem_toArray, List.getElem_cons_zero, List.getElem_cons_succ, List.setIfInBounds_toArray, List.set_cons_zero, List.set_cons_succ]
      refine wpAnyL_take (i := 11) (v := ?vu11) rfl (by kernel_rfl) (by kernel_rfl) (by kernel_rfl) (by kernel_rfl) (by kernel_rfl) (fun _ _ _ h => h) hHeld (Or.inl ⟨by rfl, ?yu11⟩) ?ru11
      case yu11 =>
        intro w hSw
        (try dsimp only at hSw)
        go_simp
        first | done | with_reducible rfl
      try simp only [Act.put, List.getElem_toArray, List.getElem_cons_zero, List.getElem_cons_succ, List.setIfInBounds_toArray, List.set_cons_zero, List.set_cons_succ]
      refine wpAnyL_one (i := 12) (by kernel_rfl) rfl rfl (fun K hK => ?_)
      go_simp
      refine hK.out _ _ (fun h => absurd rfl h) ?_
      clear hK K
      try simp only [Act.put, List.getElem_toArray, List.getElem_cons_zero, List.getElem_cons_succ, List.setIfInBounds_toArray, List.set_cons_zero, List.set_cons_succ]
      refine wpAnyL_done (by kernel_rfl) ?_ _
      go_wp2_with fail
      go_roundw
      case rel =>
        refine ⟨k + 1, m.set k { x with A := A', c := c' }, by omega, by go_num, ?_⟩
        have := HI.out.next (c' := c') (by rw [HML.out]) HX.out HB2.out HO.out hb2l
        rw [HNB.out] at this
        exact this
      case measure => simp [intOf]; omega
    · obtain rfl : k = n := by omega
      have hbr := HI.out.bel
      have cb := (hbr.block b1 (by omega)).trans HG4.out
      have cr := (hbr.block (b1 + 1) (by omega)).trans HG24.out
      have hbw := HB4.out.trans (hbr.mono (by rw [HB1.out]; omega))
      have x0 := cell_of_row wr b1 0 _ _ _ cb
      have x1 := cell_of_row wr b1 1 _ _ _ cb
      have x2 := cell_of_row wr b1 2 _ _ _ cb
      have d0 := cell_of_row wr (b1 + 1) 0 _ _ _ cr
      have d1 := cell_of_row wr (b1 + 1) 1 _ _ _ cr
      have d2 := cell_of_row wr (b1 + 1) 2 _ _ _ cr
      have f0 : wr.frozen? ⟨b1 + 1, 0, none⟩ = false := by simp [World.frozen?, cr]
      have f1 : wr.frozen? ⟨b1 + 1, 1, none⟩ = false := by simp [World.frozen?, cr]
      have f2' : wr.frozen? ⟨b1 + 1, 2, none⟩ = false := by simp [World.frozen?, cr]
      simp only [List.getElem?_toArray, List.getElem?_cons_zero, List.getElem?_cons_succ] at x0 x1 x2 d0 d1 d2
      have CR := Lib.hid cr
      have HBW := Lib.hid hbw
      clear hbr cb cr hbw
      go_wp2_with fail
      have q1 := CR.out
      rw [setCell_eq_setRow _ _ _ _ _ _ _ q1]
      have q2 := setRow_heap _ _ _ (#[Value.int .i64 0, .int .i64 0, .slice none 0 0].setIfInBounds 0 (.int .i64 id)) _ _ q1
      rw [setCell_eq_setRow _ _ _ _ _ _ _ q2]
      have q3 := setRow_heap _ _ _ ((#[Value.int .i64 0, .int .i64 0, .slice none 0 0].setIfInBounds 0 (.int .i64 id)).setIfInBounds 1 (.int .i64 bs)) _ _ q2
      rw [setCell_eq_setRow _ _ _ _ _ _ _ q3]
      have q4 := setRow_heap _ _ _ (((#[Value.int .i64 0, .int .i64 0, .slice none 0 0].setIfInBounds 0 (.int .i64 id)).setIfInBounds 1 (.int .i64 bs)).setIfInBounds 2 (.slice (some ⟨g, 0, none⟩) k c1)) _ _ q3
      simp only [setRow_setRow] at q4 ⊢
      have hml := HI.out.len.trans HN.out
      have hot : ∀ q, q ≠ b1 + 1 → (wr.setRow (b1 + 1) (((#[Value.int .i64 0, .int .i64 0, .slice none 0 0].setIfInBounds 0 (.int .i64 id)).setIfInBounds 1 (.int .i64 bs)).setIfInBounds 2 (.slice (some ⟨g, 0, none⟩) k c1))).heap[q]? = wr.heap[q]? := fun q hq => setRow_other _ _ _ _ (by omega)
      have hbz : Below w.heap.size w (wr.setRow (b1 + 1) (((#[Value.int .i64 0, .int .i64 0, .slice none 0 0].setIfInBounds 0 (.int .i64 id)).setIfInBounds 1 (.int .i64 bs)).setIfInBounds 2 (.slice (some ⟨g, 0, none⟩) k c1))) :=
        HBW.out.trans ⟨rfl, rfl, rfl, by simp, fun q hq => hot q (by have := HB1.out; omega)⟩
      have hda : DeltasAt w.heap.size (wr.setRow (b1 + 1) (((#[Value.int .i64 0, .int .i64 0, .slice none 0 0].setIfInBounds 0 (.int .i64 id)).setIfInBounds 1 (.int .i64 bs)).setIfInBounds 2 (.slice (some ⟨g, 0, none⟩) k c1))) (.slice (some ⟨g, 0, none⟩) k c1) m := by
        refine ⟨⟨HI.out.own.1, HI.out.own.2.imp (fun h => h) fun ⟨g', cap, cur, hv, hb, hg, r⟩ => ⟨g', cap, cur, hv, by have := HB1.out; omega, (hot g' (by omega)).trans hg, r⟩⟩, fun y hy => ?_⟩
        obtain ⟨j, hj⟩ := List.mem_iff_getElem?.1 hy
        have hjl := (List.getElem?_eq_some_iff.1 hj).1
        exact (HI.out.bod j y (by omega) hj).keep fun q cur' hq => hot q (fun e => by subst e; rw [CR.out] at hq; cases hq)
      refine bodyPost_ret (results_cell_row rfl _ _ (b1 + 1) 42 _ (0, 0) _ rfl q4 Tryd.underlying42 rfl (by kernel_rfl)) rfl ⟨⟨id, bs, some ⟨g, 0, none⟩, c1, m⟩, by rw [hml]; rfl, rfl, rfl, HI.out.same, by rw [hml]; exact hda, hbz⟩
end Go.Proofs.YtnkfnmkbfnhmfaaDoor
