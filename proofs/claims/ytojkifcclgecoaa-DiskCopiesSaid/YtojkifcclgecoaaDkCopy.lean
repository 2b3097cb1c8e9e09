/-
  Copies: of rows, of an area, of a disk.
-/
import Derived.Test.YtojkifcclgecoaaDkUse
namespace Go.Proofs.Ytojkifcclgecoaa.Dk
open Go Go.RowKit Go.Shelf Go.Proofs

theorem areaI : (Try.prog.info? 88).map (fun i => (i.zero, i.size, i.bytes)) = some (some (.agg #[.slice none 0 0, .slice none 0 0, .slice none 0 0]), 3, 72) := area_info
/-- slices.Clone of steps. -/
theorem clone_steps (base : Nat) (v : Value) (n : Nat) (p : List SX) (w : World) (h : w.ownsRow base 115 1 v n (p.map SX.v)) (hn : n ≤ 100000000) :
    Calls Try.prog 73 #[v] w fun e w' => ∃ v', e = .returned v' ∧ w'.ownsRow w.heap.size 115 1 v' n (p.map SX.v) ∧ Below w.heap.size w w' := by
  have qT : ∀ (w : World) (a : Option Addr) (n c n' c' : Nat), (binOp .eql 86 (.slice a n c) (.slice none n' c')).run Try.prog w = .ok (.bool a.isNone) w := fun w a n c n' c' => Lib.run_eql_slice_nil w _ _ a n c n' c' Try.underlying86
  have hl : (p.map SX.v).length = n * 1 := h.1
  rcases h.2 with ⟨rfl, rfl⟩ | ⟨g, cap, cur, rfl, hbg, hg, hnc, hcm, hcs, htake⟩
  · have hp : p.map SX.v = [] := List.eq_nil_of_length_eq_zero (by rw [hl])
    rw [hp]
    clear h
    go_enter Try.func73, Try.ntmps73
    go_wp2_with fail
    go_ret
    exact ⟨_, rfl, World.ownsRow_nil _ _ _ _, Below.refl _ _⟩
  · have hb1 : Below w.heap.size w (w.alloc (.cells #[] 115)) := (Below.refl _ _).alloc (Nat.le_refl _) _
    have hcell := World.ownsRow.cells h (g := g) rfl
    obtain ⟨v', w1, hr, ho, hgr, _⟩ := run_appX (P := Try.prog) (w.alloc (.cells #[] 115)) w.heap.size 86 86 86 115 step_info Try.underlying86 Try.underlying86 rfl (by decide) (World.ownsRow_made w #[] 0 (Nat.le_refl _) (Nat.zero_le _) rfl) (some ⟨g, 0, none⟩) n cap (p.map SX.v) hl (fun e => by cases e) (fun a e j u hu => by
      cases e
      have := hcell j u hu
      exact (hb1.cell (World.block_lt_of_cell? _ _ this)).trans this) (fun u hu => by
      obtain ⟨s, _, rfl⟩ := List.mem_map.1 hu
      cases s <;> rfl) (by unfold maxLen; omega) (by omega) (by simp)
    have HF := Lib.hid (show w1.ownsRow w.heap.size 115 1 v' n (p.map SX.v) ∧ Below w.heap.size w w1 from ⟨by simpa using ho, hb1.grown hgr (by simp) (fun k e => by cases e; exact Nat.le_refl _)⟩)
    obtain ⟨A1, c1, hv1, _⟩ := row_slice HF.out.1
    subst hv1
    have HR := Lib.hid hr
    clear hr ho hgr h hg htake hcell
    go_enter Try.func73, Try.ntmps73
    go_wp2_with (at_builtin; refine Lib.wpList_append_run _ rfl _ _ _ _ rfl _ _ rfl rfl _ _ HR.out ?_)
    go_ret
    exact ⟨_, rfl, HF.out⟩

/-- Three cells of a block. -/
theorem there3 {w : World} {N : Nat} {a b c : Value} {t : TypeId} (h : w.heap[N]? = some (.cells #[a, b, c] t (0, 0))) {j : Nat} (hj : j < 3) : (w.cell? ⟨N, 0 + j, none⟩).isSome = true ∧ w.frozen? ⟨N, 0 + j, none⟩ = false := by
  refine ⟨?_, frozen_of_row w N _ _ _ h⟩
  rw [cell_of_row w N _ _ _ _ h, Nat.zero_add]
  match j, hj with
  | 0, _ => rfl
  | 1, _ => rfl
  | 2, _ => rfl
theorem store3 {w : World} {N : Nat} {a b c : Value} {t : TypeId} (h : w.heap[N]? = some (.cells #[a, b, c] t (0, 0))) (x y z : Value) : (w.setCells N 0 [x, y, z]).heap[N]? = some (.cells #[x, y, z] t (0, 0)) ∧ OnlyB w N (w.setCells N 0 [x, y, z]) := by
  have e1 := heap_setCell_same w N 0 _ _ x h
  have e2 := heap_setCell_same _ N 1 _ _ y e1
  have e3 := heap_setCell_same _ N 2 _ _ z e2
  exact ⟨e3, ((OnlyB.set w N 0 x).trans (OnlyB.set _ N 1 y)).trans (OnlyB.set _ N 2 z)⟩
/-- What a copy of an area is made of. -/
def CopyV (w : World) (x : AX) (v0 v1 v2 : Value) (w' : World) : Prop :=
  ∃ s1 s2 : Nat, OB w.heap.size w' v0 x.c ∧ OB w.heap.size w' v1 x.l ∧ w'.ownsRow w.heap.size 115 1 v2 x.p.length (x.p.map SX.v) ∧ (∀ q, v0.ownBlock = some q → q < s1) ∧ (∀ q, v1.ownBlock = some q → s1 ≤ q ∧ q < s2) ∧ (∀ q, v2.ownBlock = some q → s2 ≤ q) ∧ w.heap.size ≤ s1 ∧ s1 ≤ s2 ∧ Below w.heap.size w w'

set_option maxRecDepth 100000 in
set_option maxHeartbeats 8000000 in
theorem acopy_any (base : Nat) (w : World) (g o : Nat) (x : AX) (c0 : w.cell? ⟨g, o, none⟩ = some x.cv) (c1 : w.cell? ⟨g, o + 1, none⟩ = some x.lv) (c2 : w.cell? ⟨g, o + 2, none⟩ = some x.pv) (h0 : OB base w x.cv x.c) (h1 : OB base w x.lv x.l) (h2 : w.ownsRow base 115 1 x.pv x.p.length (x.p.map SX.v)) (n0 : x.c.length ≤ 1000000) (n1 : x.l.length ≤ 1000000) (n2 : x.p.length ≤ 1000000) :
    Calls Try.prog 51 #[.pointer (some ⟨g, o, none⟩)] w fun e w' => ∃ v0 v1 v2, e = .returned (.agg #[v0, v1, v2]) ∧ CopyV w x v0 v1 v2 w' := by
  obtain ⟨Ac, cc, hcv, hsc, -⟩ := OB.sl h0
  obtain ⟨Al, cl, hlv, hsl, -⟩ := OB.sl h1
  obtain ⟨Ap, cp, hpv, -⟩ := row_slice h2
  rw [hcv] at c0
  rw [hlv] at c1
  rw [hpv] at c2
  have HT1 := Lib.hid (fun (W : World) (hW : Below w.heap.size w W) => tell_any Ac x.c.length cc x.c W (hsc.below hW) rfl (by omega))
  have HT2 := Lib.hid (fun (W : World) (hW : Below w.heap.size w W) => tell_any Al x.l.length cl x.l W (hsl.below hW) rfl (by omega))
  have HT3 := Lib.hid (fun (W : World) (hW : Below w.heap.size w W) => (by
    have := clone_steps base x.pv x.p.length x.p W (row_keep h2 fun q _ hl => hW.block q hl) (by omega)
    rw [hpv] at this; exact this : Calls Try.prog 73 #[.slice Ap x.p.length cp] W _))
  obtain ⟨nc, hnc⟩ : ∃ q, x.c.length = q := ⟨_, rfl⟩
  obtain ⟨nl, hnl⟩ : ∃ q, x.l.length = q := ⟨_, rfl⟩
  obtain ⟨np, hnp⟩ : ∃ q, x.p.length = q := ⟨_, rfl⟩
  rw [hnc] at c0 HT1
  rw [hnl] at c1 HT2
  rw [hnp] at c2 HT3
  clear hnc hnl h0 h1 h2 hcv hlv hpv hsc hsl
  obtain ⟨N, hN⟩ : ∃ N, N = w.heap.size := ⟨_, rfl⟩
  go_enter Try.func51, Try.ntmps51
  go_wp2_with fail
  obtain ⟨W0, hW0⟩ : ∃ W0, w.alloc (.cells #[.slice none 0 0, .slice none 0 0, .slice none 0 0] 88) = W0 := ⟨_, rfl⟩
  have hz0 := heap_alloc_new w (.cells #[.slice none 0 0, .slice none 0 0, .slice none 0 0] 88)
  have hb0 : Below w.heap.size w (w.alloc (.cells #[.slice none 0 0, .slice none 0 0, .slice none 0 0] 88)) := (Below.refl _ _).alloc (Nat.le_refl _) _
  rw [hW0] at hz0 hb0 ⊢
  have b0 : Below w.heap.size w W0.drew := hb0.drew
  have hs0 : w.heap.size < W0.heap.size := (Array.getElem?_eq_some_iff.1 hz0).1
  have d0 := (hb0.cell (p := ⟨g, o, none⟩) (World.block_lt_of_cell? _ (a := ⟨g, o, none⟩) c0)).trans c0
  have d1 := (hb0.cell (p := ⟨g, o + 1, none⟩) (World.block_lt_of_cell? _ (a := ⟨g, o + 1, none⟩) c1)).trans c1
  have d2 := (hb0.cell (p := ⟨g, o + 2, none⟩) (World.block_lt_of_cell? _ (a := ⟨g, o + 2, none⟩) c2)).trans c2
  have hgN : g < w.heap.size := World.block_lt_of_cell? _ (a := ⟨g, o, none⟩) c0
  have HZ0 := Lib.hid hz0
  clear hz0 hb0 hW0 c0 c1 c2
  refine wp_region_held_drew (S := (fun w' => w'.cell? ⟨g, o, none⟩ = some (.slice Ac nc cc) ∧ w'.cell? ⟨g, o + 1, none⟩ = some (.slice Al nl cl) ∧ w'.cell? ⟨g, o + 2, none⟩ = some (.slice Ap np cp))) (by kernel_rfl) ⟨d0, d1, d2⟩ (fun hHeld => ?_)
  refine wpAnyH_take (i := 0) (v := ?vc0) rfl (by kernel_rfl) (by kernel_rfl) (by kernel_rfl) (fun _ _ _ h => h) (Or.inl ⟨by rfl, ?yc0⟩) (by assumption) ?rc0
  case yc0 =>
    intro w hSw
    (try dsimp only at hSw)
    go_simp
    first | done | with_reducible rfl
  try simp only [Act.put, List.getElem_toArray, List.getElem_cons_zero, List.setIfInBounds_toArray, List.set_cons_zero, List.set_cons_succ]
  refine wpAnyH_take (i := 1) (v := ?vc1) rfl (by kernel_rfl) (by kernel_rfl) (by kernel_rfl) (fun _ _ _ h => h) (Or.inl ⟨by rfl, ?yc1⟩) (by assumption) ?rc1
  case yc1 =>
    intro w hSw
    (try dsimp only at hSw)
    go_simp
    first | done | with_reducible rfl
  try simp only [Act.put, List.getElem_toArray, List.getElem_cons_zero, List.getElem_cons_succ, List.setIfInBounds_toArray, List.set_cons_zero, List.set_cons_succ]
  refine wpAnyH_take (i := 2) (v := ?vc2) rfl (by kernel_rfl) (by kernel_rfl) (by kernel_rfl) (fun _ _ _ h => h) (Or.inl ⟨by rfl, ?yc2⟩) (by assumption) ?rc2
  case yc2 =>
    intro w hSw
    (try dsimp only at hSw)
    go_simp
    first | done | with_reducible rfl
  try simp only [Act.put, List.getElem_toArray, List.getElem_cons_zero, List.getElem_cons_succ, List.setIfInBounds_toArray, List.set_cons_zero, List.set_cons_succ]
  refine wpAnyH_take (i := 3) (v := ?vc3) rfl (by kernel_rfl) (by kernel_rfl) (by kernel_rfl) (fun _ _ _ h => h) (Or.inl ⟨by rfl, ?yc3⟩) (by assumption) ?rc3
  case yc3 =>
    intro w hSw
    (try dsimp only at hSw)
    go_simp
    first | done | with_reducible rfl
  try simp only [Act.put, List.getElem_toArray, List.getElem_cons_zero, List.getElem_cons_succ, List.setIfInBounds_toArray, List.set_cons_zero, List.set_cons_succ]
  refine wpAnyH_take (i := 5) (v := ?vc5) rfl (by kernel_rfl) (by kernel_rfl) (by kernel_rfl) (fun _ _ _ h => h) (Or.inl ⟨by rfl, ?yc5⟩) (by assumption) ?rc5
  case yc5 =>
    intro w hSw
    (try dsimp only at hSw)
    go_simp
    first | done | with_reducible rfl
  try simp only [Act.put, List.getElem_toArray, List.getElem_cons_zero, List.getElem_cons_succ, List.setIfInBounds_toArray, List.set_cons_zero, List.set_cons_succ]
  refine wpAnyH_take (i := 6) (v := ?vc6) rfl (by kernel_rfl) (by kernel_rfl) (by kernel_rfl) (fun _ _ _ h => h) (Or.inl ⟨by rfl, ?yc6⟩) (by assumption) ?rc6
  case yc6 =>
    intro w hSw
    (try dsimp only at hSw)
    go_simp
    first | done | with_reducible rfl
  try simp only [Act.put, List.getElem_toArray, List.getElem_cons_zero, List.getElem_cons_succ, List.setIfInBounds_toArray, List.set_cons_zero, List.set_cons_succ]
  refine wpAnyH_take (i := 7) (v := ?vc7) rfl (by kernel_rfl) (by kernel_rfl) (by kernel_rfl) (fun _ _ _ h => h) (Or.inl ⟨by rfl, ?yc7⟩) (by assumption) ?rc7
  case yc7 =>
    intro w hSw
    (try dsimp only at hSw)
    go_simp
    first | done | with_reducible rfl
  try simp only [Act.put, List.getElem_toArray, List.getElem_cons_zero, List.getElem_cons_succ, List.setIfInBounds_toArray, List.set_cons_zero, List.set_cons_succ]
  refine wpAnyH_take (i := 8) (v := ?vc8) rfl (by kernel_rfl) (by kernel_rfl) (by kernel_rfl) (fun _ _ _ h => h) (Or.inl ⟨by rfl, ?yc8⟩) (by assumption) ?rc8
  case yc8 =>
    intro w hSw
    (try dsimp only at hSw)
    go_simp
    first | done | with_reducible rfl
  try simp only [Act.put, List.getElem_toArray, List.getElem_cons_zero, List.getElem_cons_succ, List.setIfInBounds_toArray, List.set_cons_zero, List.set_cons_succ]
  refine wpAnyH_take (i := 10) (v := ?vc10) rfl (by kernel_rfl) (by kernel_rfl) (by kernel_rfl) (fun _ _ _ h => h) (Or.inl ⟨by rfl, ?yc10⟩) (by assumption) ?rc10
  case yc10 =>
    intro w hSw
    (try dsimp only at hSw)
    go_simp
    first | done | with_reducible rfl
  try simp only [Act.put, List.getElem_toArray, List.getElem_cons_zero, List.getElem_cons_succ, List.setIfInBounds_toArray, List.set_cons_zero, List.set_cons_succ]
  refine wpAnyH_take (i := 11) (v := ?vc11) rfl (by kernel_rfl) (by kernel_rfl) (by kernel_rfl) (fun _ _ _ h => h) (Or.inl ⟨by rfl, ?yc11⟩) (by assumption) ?rc11
  case yc11 =>
    intro w hSw
    (try dsimp only at hSw)
    go_simp
    first | done | with_reducible rfl
  try simp only [Act.put, List.getElem_toArray, List.getElem_cons_zero, List.getElem_cons_succ, List.setIfInBounds_toArray, List.set_cons_zero, List.set_cons_succ]
  refine wpAnyH_take (i := 12) (v := ?vc12) rfl (by kernel_rfl) (by kernel_rfl) (by kernel_rfl) (fun _ _ _ h => h) (Or.inl ⟨by rfl, ?yc12⟩) (by assumption) ?rc12
  case yc12 =>
    intro w hSw
    (try dsimp only at hSw)
    go_simp
    first | done | with_reducible rfl
  try simp only [Act.put, List.getElem_toArray, List.getElem_cons_zero, List.getElem_cons_succ, List.setIfInBounds_toArray, List.set_cons_zero, List.set_cons_succ]
  refine wpAnyH_take (i := 13) (v := ?vc13) rfl (by kernel_rfl) (by kernel_rfl) (by kernel_rfl) (fun _ _ _ h => h) (Or.inl ⟨by rfl, ?yc13⟩) (by assumption) ?rc13
  case yc13 =>
    intro w hSw
    (try dsimp only at hSw)
    go_simp
    first | done | with_reducible rfl
  try simp only [Act.put, List.getElem_toArray, List.getElem_cons_zero, List.getElem_cons_succ, List.setIfInBounds_toArray, List.set_cons_zero, List.set_cons_succ]
  refine wpAnyH_ready (rs := [4]) (by kernel_rfl) (by simp) ?_
  refine AllReadyH.cons rfl (fun K hK => ?_) AllReadyH.nil
  go_simp
  refine (HT1.out _ b0).mono ?_
  rintro e wa ⟨v0, rfl, hov0, hbv0⟩
  obtain ⟨Av0, dv0, hvv0, -⟩ := row_slice hov0
  subst hvv0
  have HOv0 := Lib.hid hov0
  have HBv0 := Lib.hid hbv0
  have k0 := (hbv0.cell (p := ⟨g, o, none⟩) (World.block_lt_of_cell? _ (a := ⟨g, o, none⟩) hHeld.1)).trans hHeld.1
  have k1 := (hbv0.cell (p := ⟨g, o + 1, none⟩) (World.block_lt_of_cell? _ (a := ⟨g, o + 1, none⟩) hHeld.2.1)).trans hHeld.2.1
  have k2 := (hbv0.cell (p := ⟨g, o + 2, none⟩) (World.block_lt_of_cell? _ (a := ⟨g, o + 2, none⟩) hHeld.2.2)).trans hHeld.2.2
  clear hov0 hbv0
  have KK := Lib.hid (And.intro k0 (And.intro k1 k2))
  clear k0 k1 k2
  go_wp2_with fail
  refine hK.out _ _ KK.out (fun hHeld => ?_)
  clear hK K
  try simp only [Act.put, List.getElem_toArray, List.getElem_cons_zero, List.getElem_cons_succ, List.setIfInBounds_toArray, List.set_cons_zero, List.set_cons_succ]
  refine wpAnyH_ready (rs := [9]) (by kernel_rfl) (by simp) ?_
  refine AllReadyH.cons rfl (fun K hK => ?_) AllReadyH.nil
  go_simp
  refine (HT2.out _ (b0.trans (HBv0.out.mono b0.size))).mono ?_
  rintro e wb ⟨v1, rfl, hov1, hbv1⟩
  obtain ⟨Av1, dv1, hvv1, -⟩ := row_slice hov1
  subst hvv1
  have HOv1 := Lib.hid hov1
  have HBv1 := Lib.hid hbv1
  have k0 := (hbv1.cell (p := ⟨g, o, none⟩) (World.block_lt_of_cell? _ (a := ⟨g, o, none⟩) hHeld.1)).trans hHeld.1
  have k1 := (hbv1.cell (p := ⟨g, o + 1, none⟩) (World.block_lt_of_cell? _ (a := ⟨g, o + 1, none⟩) hHeld.2.1)).trans hHeld.2.1
  have k2 := (hbv1.cell (p := ⟨g, o + 2, none⟩) (World.block_lt_of_cell? _ (a := ⟨g, o + 2, none⟩) hHeld.2.2)).trans hHeld.2.2
  clear hov1 hbv1
  have KK := Lib.hid (And.intro k0 (And.intro k1 k2))
  clear k0 k1 k2
  go_wp2_with fail
  refine hK.out _ _ KK.out (fun hHeld => ?_)
  clear hK K
  try simp only [Act.put, List.getElem_toArray, List.getElem_cons_zero, List.getElem_cons_succ, List.setIfInBounds_toArray, List.set_cons_zero, List.set_cons_succ]
  refine wpAnyH_ready (rs := [14]) (by kernel_rfl) (by simp) ?_
  refine AllReadyH.cons rfl (fun K hK => ?_) AllReadyH.nil
  go_simp
  refine (HT3.out _ ((b0.trans (HBv0.out.mono b0.size)).trans (HBv1.out.mono (Nat.le_trans b0.size HBv0.out.size)))).mono ?_
  rintro e wc ⟨v2, rfl, hov2, hbv2⟩
  obtain ⟨Av2, dv2, hvv2, -⟩ := row_slice hov2
  subst hvv2
  have HOv2 := Lib.hid hov2
  have HBv2 := Lib.hid hbv2
  have k0 := (hbv2.cell (p := ⟨g, o, none⟩) (World.block_lt_of_cell? _ (a := ⟨g, o, none⟩) hHeld.1)).trans hHeld.1
  have k1 := (hbv2.cell (p := ⟨g, o + 1, none⟩) (World.block_lt_of_cell? _ (a := ⟨g, o + 1, none⟩) hHeld.2.1)).trans hHeld.2.1
  have k2 := (hbv2.cell (p := ⟨g, o + 2, none⟩) (World.block_lt_of_cell? _ (a := ⟨g, o + 2, none⟩) hHeld.2.2)).trans hHeld.2.2
  clear hov2 hbv2
  have KK := Lib.hid (And.intro k0 (And.intro k1 k2))
  clear k0 k1 k2
  go_wp2_with fail
  refine hK.out _ _ KK.out (fun hHeld => ?_)
  clear hK K
  try simp only [Act.put, List.getElem_toArray, List.getElem_cons_zero, List.getElem_cons_succ, List.setIfInBounds_toArray, List.set_cons_zero, List.set_cons_succ]
  refine wpAnyH_take (i := 15) (v := ?vc15) rfl (by kernel_rfl) (by kernel_rfl) (by kernel_rfl) (fun _ _ _ h => h) (Or.inl ⟨by rfl, ?yc15⟩) (by assumption) ?rc15
  case yc15 =>
    intro w hSw
    (try dsimp only at hSw)
    go_simp
    first | done | with_reducible rfl
  try simp only [Act.put, List.getElem_toArray, List.getElem_cons_zero, List.getElem_cons_succ, List.setIfInBounds_toArray, List.set_cons_zero, List.set_cons_succ]
  refine wpAnyH_ready (rs := [16]) (by kernel_rfl) (by simp) ?_
  refine AllReadyH.cons rfl (fun K hK => ?_) AllReadyH.nil
  have hzc : wc.heap[w.heap.size]? = some (.cells #[.slice none 0 0, .slice none 0 0, .slice none 0 0] 88 (0, 0)) := (HBv2.out.block _ (Nat.lt_of_lt_of_le hs0 (Nat.le_trans HBv0.out.size HBv1.out.size))).trans ((HBv1.out.block _ (Nat.lt_of_lt_of_le hs0 HBv0.out.size)).trans ((HBv0.out.block _ hs0).trans HZ0.out))
  have HZC := Lib.hid hzc
  refine wp_store_mid 88 (.tmp 2) (.tmp 18) rfl w.heap.size 0 #[.slice Av0 x.c.length dv0, .slice Av1 x.l.length dv1, .slice Av2 np dv2] rfl rfl (fun j hj => there3 hzc hj) (by kernel_rfl) (by simp [Value.oneCell']) ?_
  have hst := store3 hzc (.slice Av0 x.c.length dv0) (.slice Av1 x.l.length dv1) (.slice Av2 np dv2)
  obtain ⟨wd, hwd⟩ : ∃ wd, wc.setCells w.heap.size 0 [.slice Av0 x.c.length dv0, .slice Av1 x.l.length dv1, .slice Av2 np dv2] = wd := ⟨_, rfl⟩
  rw [show (#[Value.slice Av0 x.c.length dv0, .slice Av1 x.l.length dv1, .slice Av2 np dv2] : Array Value).toList = [.slice Av0 x.c.length dv0, .slice Av1 x.l.length dv1, .slice Av2 np dv2] from rfl, hwd]
  rw [hwd] at hst
  have k0 := (World.cell?_of_block (a := ⟨g, o, none⟩) (hst.2.block g (by omega))).trans hHeld.1
  have k1 := (World.cell?_of_block (a := ⟨g, o + 1, none⟩) (hst.2.block g (by omega))).trans hHeld.2.1
  have k2 := (World.cell?_of_block (a := ⟨g, o + 2, none⟩) (hst.2.block g (by omega))).trans hHeld.2.2
  have HST := Lib.hid hst
  clear hst hzc hwd
  refine hK.out _ _ ⟨k0, k1, k2⟩ (fun hHeld => ?_)
  clear hK K
  try simp only [Act.put, List.getElem_toArray, List.getElem_cons_zero, List.getElem_cons_succ]
  refine wpAnyH_done (by kernel_rfl) ?_ _
  have hW1 : w.heap.size ≤ W0.drew.heap.size := b0.size
  have hWd : wd.heap.size = wc.heap.size := HST.out.2.size
  have HFIN := Lib.hid (show CopyV w x (.slice Av0 x.c.length dv0) (.slice Av1 x.l.length dv1) (.slice Av2 np dv2) wd from ⟨wa.heap.size, wb.heap.size,
    row_mono (row_keep HOv0.out fun q e hl => ((HST.out.2.block q (by have := (row_blk HOv0.out e).1; have : w.heap.size < W0.drew.heap.size := hs0; omega)).trans (HBv2.out.block q (Nat.lt_of_lt_of_le hl HBv1.out.size))).trans (HBv1.out.block q hl)) hW1,
    row_mono (row_keep HOv1.out fun q e hl => (HST.out.2.block q (by have := (row_blk HOv1.out e).1; have := HBv0.out.size; have : w.heap.size < W0.drew.heap.size := hs0; omega)).trans (HBv2.out.block q hl)) (Nat.le_trans hW1 HBv0.out.size),
    by
      have := row_mono (row_keep (w' := wd) HOv2.out fun q e _ => HST.out.2.block q (by have := (row_blk HOv2.out e).1; have := HBv0.out.size; have := HBv1.out.size; have : w.heap.size < W0.drew.heap.size := hs0; omega)) (Nat.le_trans hW1 (Nat.le_trans HBv0.out.size HBv1.out.size))
      rw [← hnp] at this ⊢; exact this,
    fun q e => (row_blk HOv0.out e).2.1, fun q e => ⟨(row_blk HOv1.out e).1, (row_blk HOv1.out e).2.1⟩, fun q e => (row_blk HOv2.out e).1, Nat.le_trans hW1 HBv0.out.size, HBv1.out.size,
    ⟨HST.out.2.os.trans (HBv2.out.os.trans (HBv1.out.os.trans (HBv0.out.os.trans b0.os))), HST.out.2.tape.trans (HBv2.out.tape.trans (HBv1.out.tape.trans (HBv0.out.tape.trans b0.tape))), HST.out.2.output.trans (HBv2.out.output.trans (HBv1.out.output.trans (HBv0.out.output.trans b0.output))),
      by rw [hWd]; exact Nat.le_trans hW1 (Nat.le_trans HBv0.out.size (Nat.le_trans HBv1.out.size HBv2.out.size)),
      fun q hq => (HST.out.2.block q (by omega)).trans ((HBv2.out.block q (Nat.lt_of_lt_of_le hq (Nat.le_trans hW1 (Nat.le_trans HBv0.out.size HBv1.out.size)))).trans ((HBv1.out.block q (Nat.lt_of_lt_of_le hq (Nat.le_trans hW1 HBv0.out.size))).trans ((HBv0.out.block q (Nat.lt_of_lt_of_le hq hW1)).trans (b0.block q hq))))⟩⟩)
  have HH3 := Lib.hid HST.out.1
  clear HST HBv0 HBv1 HBv2 HOv0 HOv1 HOv2 hHeld HZC b0 hW1 hWd
  go_wp2_with fail
  exact bodyPost_ret (results_cell_row rfl _ _ w.heap.size _ _ (0, 0) _ rfl HH3.out Try.underlying88 rfl (by kernel_rfl)) rfl ⟨_, _, _, rfl, HFIN.out⟩

/-- slices.Clone of areas. -/
theorem clone_areas (base : Nat) (g n cap : Nat) (xs : List Value) (w : World) (h : w.ownsRow base 88 3 (.slice (some ⟨g, 0, none⟩) n cap) n xs) (hn : n ≤ 100) (h1 : ∀ u ∈ xs, u.oneCell' = true) :
    Calls Try.prog 50 #[.slice (some ⟨g, 0, none⟩) n cap] w fun e w' => ∃ g' cap', e = .returned (.slice (some ⟨g', 0, none⟩) n cap') ∧ w'.ownsRow w.heap.size 88 3 (.slice (some ⟨g', 0, none⟩) n cap') n xs ∧ Below w.heap.size w w' := by
  have qT : ∀ (w : World) (a : Option Addr) (n c n' c' : Nat), (binOp .eql 68 (.slice a n c) (.slice none n' c')).run Try.prog w = .ok (.bool a.isNone) w := fun w a n c n' c' => Lib.run_eql_slice_nil w _ _ a n c n' c' Try.underlying68
  have hl : xs.length = n * 3 := h.1
  have hb1 : Below w.heap.size w (w.alloc (.cells #[] 88)) := (Below.refl _ _).alloc (Nat.le_refl _) _
  have hcell := World.ownsRow.cells h (g := g) rfl
  have hmade := World.ownsRow_made (e := 88) (size := 3) (base := w.heap.size) w #[] 0 (Nat.le_refl _) (Nat.zero_le _) rfl
  have hsrc : ∀ j u, xs[j]? = some u → (w.alloc (.cells #[] 88)).cell? ((⟨g, 0, none⟩ : Addr).add j) = some u := fun j u hu => by
    have := hcell j u hu
    exact (hb1.cell (World.block_lt_of_cell? _ _ this)).trans this
  obtain ⟨i0, hi, hz0, hz1, hz2⟩ := info_parts areaI
  obtain ⟨g', cap', w1, hr, ho, hgr⟩ : ∃ g' cap' w1, (Builtin.append_ #[68, 68] 68 #[.slice (some ⟨w.heap.size, 0, none⟩) 0 0, .slice (some ⟨g, 0, none⟩) n cap]).run Try.prog (w.alloc (.cells #[] 88)) = .ok (.slice (some ⟨g', 0, none⟩) n cap') w1 ∧ w1.ownsRow w.heap.size 88 3 (.slice (some ⟨g', 0, none⟩) n cap') n xs ∧ (w.alloc (.cells #[] 88)).grownBy w1 (some w.heap.size) := by
    obtain ⟨v', w1, hr, ho, hgr, h4⟩ := run_append_own (P := Try.prog) (w.alloc (.cells #[] 88)) w.heap.size 68 68 88 i0 _ 3 72 Try.underlying68 hi hz0 hz1 hz2 rfl (by decide) _ 0 [] hmade ⟨g, 0, none⟩ n cap xs hl hsrc h1 (by unfold maxLen; omega) (by omega) (by simp)
    rw [List.nil_append, Nat.zero_add] at ho
    have hne : v' ≠ .slice none 0 0 := fun e => by have := (h4.1 e).1; cases this
    rcases ho.2 with ⟨e, _⟩ | ⟨g', cap', cur, rfl, _⟩
    · exact absurd e hne
    · exact ⟨g', cap', w1, hr, ho, hgr⟩
  have HF := Lib.hid (show w1.ownsRow w.heap.size 88 3 (.slice (some ⟨g', 0, none⟩) n cap') n xs ∧ Below w.heap.size w w1 from ⟨ho, hb1.grown hgr (by simp) (fun k e => by cases e; exact Nat.le_refl _)⟩)
  have HR := Lib.hid hr
  clear hr ho hgr h hcell hmade hsrc h1 hi hz0 hz1 hz2 hl
  go_enter Try.func50, Try.ntmps50
  go_wp2_with (at_builtin; refine Lib.wpList_append_run _ rfl _ _ _ _ rfl _ _ rfl rfl _ _ HR.out ?_)
  go_ret
  exact ⟨g', cap', rfl, HF.out⟩

/-- A copy under way: i areas are copied. -/
def CInv (base : Nat) (who : Nat → Nat) (w : World) (U N gc cap i : Nat) (L : List AX) (d : DDk) (wr : World) : Prop :=
  ∃ who' L2, L2.length = i ∧ HeadAt wr N d.pw d.dead (.slice (some ⟨gc, 0, none⟩) L.length cap) d.room ∧ wr.ownsRow base 88 3 (.slice (some ⟨gc, 0, none⟩) L.length cap) L.length ((L2 ++ L.drop i).flatMap AX.cs) ∧
    (∀ j y, L2[j]? = some y → AreaAt base who' wr (U + 2 + 3 * j) y ∧ ∃ x, L[j]? = some x ∧ y.c = x.c ∧ y.l = x.l ∧ y.p = x.p) ∧ who' N = U ∧ who' gc = U + 1 ∧ Below w.heap.size w wr ∧ (∀ b, b < w.heap.size → who' b = who b) ∧ Fresh who' wr ∧ w.heap.size ≤ N ∧ w.heap.size ≤ gc
/-- Whose blocks are whose behind a copy of an area. -/
def copied (who : Nat → Nat) (n T : Nat) (v0 v1 v2 : Value) : Nat → Nat := fun b => if b < n then who b else if v0.ownBlock = some b then T else if v1.ownBlock = some b then T + 1 else if v2.ownBlock = some b then T + 2 else who b
theorem CInv.step {base : Nat} {who : Nat → Nat} {w wr w2 : World} {T U N gc cap i ga capd : Nat} {L : List AX} {d : DDk} {x : AX} {v0 v1 v2 : Value} (h : CInv base who w U N gc cap i L d wr) (hA : AreasAt base who w T ga capd L) (hx : L[i]? = some x) (hb : base ≤ w.heap.size) (hU : 0 < U) (hc : CopyV wr x v0 v1 v2 w2) :
    CInv base who w U N gc cap (i + 1) L d (((w2.setCell ⟨gc, 3 * i, none⟩ v0).setCell ⟨gc, 3 * i + 1, none⟩ v1).setCell ⟨gc, 3 * i + 2, none⟩ v2) ∧ (∀ j, j < 3 → (w2.cell? ⟨gc, 3 * i + j, none⟩).isSome = true ∧ w2.frozen? ⟨gc, 3 * i + j, none⟩ = false) ∧ w2.cell? ⟨N, 3, none⟩ = wr.cell? ⟨N, 3, none⟩ ∧ (((w2.setCell ⟨gc, 3 * i, none⟩ v0).setCell ⟨gc, 3 * i + 1, none⟩ v1).setCell ⟨gc, 3 * i + 2, none⟩ v2).cell? ⟨N, 3, none⟩ = wr.cell? ⟨N, 3, none⟩ := by
  obtain ⟨who', L2, e1, h1, h2, h3, h4, h5, h6, h7, h8, h9, h10⟩ := h
  obtain ⟨s1, s2, c0, c1, c2, q0, q1, q2, q3, q4, hbw⟩ := hc
  have hi := (List.getElem?_eq_some_iff.1 hx).1
  have hgc : gc < wr.heap.size := (row_blk h2 rfl).2.1
  have hN := h1.cells.1
  have hNg : N ≠ gc := fun e => by subst e; omega
  have hrow2 : w2.ownsRow base 88 3 (.slice (some ⟨gc, 0, none⟩) L.length cap) L.length ((L2 ++ L.drop i).flatMap AX.cs) := row_keep h2 fun q _ hl => hbw.block q hl
  have hat : (L2 ++ L.drop i)[i]? = some x := by
    rw [List.getElem?_append_right (by omega), e1, Nat.sub_self, List.getElem?_drop, Nat.add_zero]; exact hx
  obtain ⟨y, hy⟩ : ∃ y : AX, y = ⟨v0, v1, v2, x.c, x.l, x.p⟩ := ⟨_, rfl⟩
  have hset := cs_set hat y
  have st1 := hrow2.stored (3 * i) v0
  have st2 := st1.1.stored (3 * i + 1) v1
  have st3 := st2.1.stored (3 * i + 2) v2
  rw [hy] at hset
  obtain ⟨W, hW⟩ : ∃ W, ((w2.setCell ⟨gc, 3 * i, none⟩ v0).setCell ⟨gc, 3 * i + 1, none⟩ v1).setCell ⟨gc, 3 * i + 2, none⟩ v2 = W := ⟨_, rfl⟩
  have hO : OnlyB w2 gc W := by rw [← hW]; exact ((OnlyB.set w2 gc (3 * i) v0).trans (OnlyB.set _ gc (3 * i + 1) v1)).trans (OnlyB.set _ gc (3 * i + 2) v2)
  have st4 := st3.1
  rw [hW] at st4 ⊢
  rw [hset] at st4
  have hls : (L2 ++ L.drop i).set i ⟨v0, v1, v2, x.c, x.l, x.p⟩ = (L2 ++ [y]) ++ L.drop (i + 1) := by
    rw [List.set_append_right _ _ (by omega), e1, Nat.sub_self, hy]
    have : L.drop i = x :: L.drop (i + 1) := by
      rw [List.drop_eq_getElem_cons hi]
      congr 1
      exact Option.some.inj ((List.getElem?_eq_getElem hi).symm.trans hx)
    rw [this, List.set_cons_zero, List.append_assoc]; rfl
  rw [hls] at st4
  have hsz : W.heap.size = w2.heap.size := hO.size
  have hold : ∀ b, b < wr.heap.size → b ≠ gc → W.heap[b]? = wr.heap[b]? := fun b hb1 hb2 => (hO.block b hb2).trans (hbw.block b hb1)
  have hwo : ∀ b, b < wr.heap.size → copied who' wr.heap.size (U + 2 + 3 * i) v0 v1 v2 b = who' b := fun b hb1 => by unfold copied; rw [if_pos hb1]
  have hwr : w.heap.size ≤ wr.heap.size := h6.size
  have kc : ∀ b, W.cell? ⟨N, b, none⟩ = wr.cell? ⟨N, b, none⟩ := fun b => World.cell?_of_block (a := ⟨N, b, none⟩) (hold N hN hNg)
  refine ⟨⟨copied who' wr.heap.size (U + 2 + 3 * i) v0 v1 v2, L2 ++ [y], by rw [List.length_append, e1]; rfl, h1.keep (hold N hN hNg), st4, fun j z hz => ?_, (hwo N hN).trans h4, (hwo gc hgc).trans h5, ?_, fun b hb1 => (hwo b (by omega)).trans (h7 b hb1), fun b hb1 => ?_, h9, h10⟩, fun j hj => ⟨?_, hrow2.frozenAt _⟩, World.cell?_of_block (a := ⟨N, 3, none⟩) (hbw.block N hN), kc 3⟩
  · by_cases hj : j < L2.length
    · rw [List.getElem?_append_left hj] at hz
      obtain ⟨g1, g2⟩ := h3 j z hz
      exact ⟨g1.keep fun b hb1 hb2 => ⟨hold b hb1 (fun e => by subst e; omega), hwo b hb1⟩, g2⟩
    · have hjl : j < (L2 ++ [y]).length := (List.getElem?_eq_some_iff.1 hz).1
      rw [List.length_append, List.length_singleton] at hjl
      obtain rfl : j = i := by omega
      rw [List.getElem?_append_right (by omega), e1, Nat.sub_self] at hz
      obtain rfl : y = z := by simpa using hz
      subst hy
      refine ⟨⟨row_mono (row_keep c0 fun q e _ => hO.block q (fun e2 => by have := (row_blk c0 e).1; omega)) (by omega), row_mono (row_keep c1 fun q e _ => hO.block q (fun e2 => by have := (row_blk c1 e).1; omega)) (by omega), row_mono (row_keep c2 fun q e _ => hO.block q (fun e2 => by have := (row_blk c2 e).1; omega)) (by omega), fun s hs => ((hA.each j x hx).steps s hs).keep fun b hb1 hb2 => ⟨(hold b (by omega) (by omega)).trans (h6.block b hb1), (hwo b (by omega)).trans (h7 b hb1)⟩, fun q e => ?_, fun q e => ?_, fun q e => ?_⟩, x, hx, rfl, rfl, rfl⟩
      · have e : v0.ownBlock = some q := e
        have := (row_blk c0 e).1
        unfold copied
        rw [if_neg (by omega), if_pos e]
      · have e : v1.ownBlock = some q := e
        have := (row_blk c1 e).1
        have := q1 q e
        unfold copied
        rw [if_neg (by omega), if_neg (fun e0 => by have := q0 q e0; omega), if_pos e]
      · have e : v2.ownBlock = some q := e
        have := (row_blk c2 e).1
        have := q2 q e
        unfold copied
        rw [if_neg (by omega), if_neg (fun e0 => by have := q0 q e0; omega), if_neg (fun e0 => by have := q1 q e0; omega), if_pos e]
  · refine ⟨hO.os.trans (hbw.os.trans h6.os), hO.tape.trans (hbw.tape.trans h6.tape), hO.output.trans (hbw.output.trans h6.output), by rw [hsz]; exact Nat.le_trans hwr hbw.size, fun b hb1 => (hold b (by omega) (by omega)).trans (h6.block b hb1)⟩
  · have hbz : w2.heap.size ≤ b := by rw [← hsz]; exact hb1
    have := hbw.size
    unfold copied
    rw [if_neg (by omega), if_neg (fun e => by have := (row_blk c0 e).2.1; omega), if_neg (fun e => by have := (row_blk c1 e).2.1; omega), if_neg (fun e => by have := (row_blk c2 e).2.1; omega)]
    exact h8 b (by omega)
  · rw [hrow2.cellAt _ (by omega)]
    have : 3 * i + j < ((L2 ++ L.drop i).flatMap AX.cs).length := by rw [cs_length, List.length_append, e1, List.length_drop]; omega
    rw [List.getElem?_eq_getElem this]; rfl
end Go.Proofs.Ytojkifcclgecoaa.Dk
