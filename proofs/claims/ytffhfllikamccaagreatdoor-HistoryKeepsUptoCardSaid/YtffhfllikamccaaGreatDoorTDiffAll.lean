/-
  The contract of tree.Diff. · The contract of tree.Diff, whole.
-/
import Derived.Test.YtffhfllikamccaaGreatDoorTDelta
import Derived.Test.YtffhfllikamccaaGreatDoorTRightW
namespace Go.Proofs.YtffhfllikamccaaGreatDoor
open Go Go.RowKit Go.Shelf Go.Proofs
attribute [local go_sem] Oper.semAt_some

def diffB (a b : List FX) : List Dl := if rightT (flsX a) && rightT (flsX b) then diffT (flsX a) (flsX b) else []
def DiffPost (a b : List FX) (w : World) (e : Ending) (w' : World) : Prop := ∃ (v : Value) (l : List DX), e = .returned v ∧ DeltasAt w.heap.size w' v l ∧ l.map DX.dl = diffB a b ∧ Below w.heap.size w w'
/-- What has been told of the first k pairs. -/
def toldP (a b : List FX) (k : Nat) : List Dl := ((pairsX a b).take k).flatMap (delP (flsX a) (flsX b))
theorem toldP_zero (a b : List FX) : toldP a b 0 = [] := rfl
theorem toldP_snoc (a b : List FX) (k : Nat) (x : Option Nat × Option Nat) (hx : (pairsX a b)[k]? = some x) : toldP a b (k + 1) = toldP a b k ++ delP (flsX a) (flsX b) x := by
  unfold toldP
  rw [List.take_add_one, hx, List.flatMap_append]; simp
theorem toldP_all (a b : List FX) : toldP a b (pairsX a b).length = diffT (flsX a) (flsX b) := by
  unfold toldP
  rw [List.take_length]
  exact pairsN_delP _ _ _ _ 0 0 rfl rfl
theorem tree_low {w : World} {A B : Option Addr} {c d : Nat} {a b : List FX} (ha : TreeAt w A c a) (hb : TreeAt w B d b) : ∀ k, KeepTwo A B a b k → k < w.heap.size := by
  rintro k (⟨hn, a', e, rfl⟩ | ⟨hn, a', e, rfl⟩)
  · obtain ⟨g, o, rfl, hr⟩ := ha.row hn
    cases e
    obtain ⟨x, hx⟩ : ∃ x, a[0]? = some x := ⟨_, List.getElem?_eq_getElem hn⟩
    exact World.block_lt_of_cell? w (a := ⟨g, o + 0 * 2, none⟩) (hr 0 x hx).1
  · obtain ⟨g, o, rfl, hr⟩ := hb.row hn
    cases e
    obtain ⟨x, hx⟩ : ∃ x, b[0]? = some x := ⟨_, List.getElem?_eq_getElem hn⟩
    exact World.block_lt_of_cell? w (a := ⟨g, o + 0 * 2, none⟩) (hr 0 x hx).1
theorem DeltasAt.lower {base base' : Nat} {W : World} {v : Value} {l : List DX} (h : DeltasAt base W v l) (hb : base' ≤ base) : DeltasAt base' W v l := by
  refine ⟨⟨h.own.1, ?_⟩, h.bod⟩
  rcases h.own.2 with h2 | ⟨g, cap, cur, h1, h2, h3⟩
  · exact .inl h2
  · exact .inr ⟨g, cap, cur, h1, by omega, h3⟩

theorem body_len {b : List FX} (h : rightT (flsX b) = true) {j : Nat} {x : FX} (hx : b[j]? = some x) : x.b.length ≤ 1000000 := by
  have := ((right_all h).2.1 x.fl (by unfold flsX; exact List.mem_map.2 ⟨x, List.mem_of_getElem? hx, rfl⟩)).2
  have e : x.fl.2 = x.b := rfl
  rw [e] at this; omega
theorem below_back {B : Nat} {w W W' : World} (h1 : Below B w W) (h2 : Below B w W') : W.heap.size ≤ W'.heap.size → Below B W W' := fun hs =>
  ⟨h2.os.trans h1.os.symm, h2.tape.trans h1.tape.symm, h2.output.trans h1.output.symm, hs, fun k hk => (h2.block k hk).trans (h1.block k hk).symm⟩
/-- Between two rounds: what the box holds, and what it tells. -/
def DiffI (a b : List FX) (w : World) (k : Nat) (W : World) : Prop := ∃ (v : Value) (l : List DX), Boxed W w.heap.size 39 v ∧ DeltasAt (w.heap.size + 1) W v l ∧ l.map DX.dl = toldP a b k ∧ l.length ≤ k ∧ Below w.heap.size w W
theorem diffI_own (a b : List FX) (w : World) (B : Nat) (hB : w.heap.size < B) : OwnTo NoBlock B (DiffI a b w) := by
  rintro k W W' row ⟨v, l, h1, h2, h3, h4, h5⟩ hg hr
  have hr' : ∀ r, row = some r → B ≤ r ∧ ∃ o : Obj, W.heap[r]? = some o ∧ o.isCells = false := fun r e => (hr r e).resolve_left (fun h => h)
  exact ⟨v, l, (hg.block _ h1.lt (fun e => by have := (hr' _ e.symm).1; omega)).trans h1, h2.keepNC hg (fun r e => (hr' r e).2), h3, h4, h5.grown hg h5.size (fun r e => by have := (hr' r e).1; omega)⟩

set_option maxRecDepth 100000 in
set_option maxHeartbeats 8000000 in
theorem diff_right (a b : List FX) (A B : Option Addr) (c d : Nat) (w0 : World) (ha : TreeAt w0 A c a) (hb : TreeAt w0 B d b) (hsa : ∀ x ∈ a, x.p.size ≤ 1000000) (hsb : ∀ x ∈ b, x.p.size ≤ 1000000) (hm : MaxOk w0)
    (hra : rightT (flsX a) = true) (hrb : rightT (flsX b) = true) :
    Calls Tryz.prog 30 #[.slice A a.length c, .slice B b.length d] w0 (DiffPost a b w0) := by
  have hla : a.length ≤ 1000 := by have := (right_all hra).1; rwa [flsX_length] at this
  have hlb : b.length ≤ 1000 := by have := (right_all hrb).1; rwa [flsX_length] at this
  refine (callsIn_wide (n := 3)).1 ?_
  generalize 3 = n
  refine callsIn_of_wp_marks Tryz.func30 rfl trivial ?_ rfl
  simp only [Tryz.ntmps30, List.size_toArray, List.length_cons, List.length_nil, Nat.reduceAdd, Nat.reduceSub, Array.replicate_succ, Array.replicate_zero, List.push_toArray, List.append_toArray, List.nil_append, List.cons_append]
  have RA := Lib.hid hra; clear hra
  have RB := Lib.hid hrb; clear hrb
  have HSA := Lib.hid hsa; clear hsa
  have HSB := Lib.hid hsb; clear hsb
  have HM := Lib.hid hm; clear hm
  gi_wp2
  refine wide_call (tright_any a A c _ ha HSA.out HM.out) ?_
  rintro e w1 ⟨rfl, hb1⟩
  rw [RA.out]
  have HB1 := Lib.hid hb1; clear hb1
  gi_wp2
  refine wide_call (tright_any b B d _ (hb.below HB1.out) HSB.out (HM.out.below HB1.out)) ?_
  rintro e w2 ⟨rfl, hb2⟩
  rw [RB.out]
  have hb2 := HB1.out.trans (hb2.mono HB1.out.size)
  have ha2 := ha.below hb2
  have hb3 := hb.below hb2
  have HB2 := Lib.hid hb2; clear hb2 HB1
  gi_wp2
  refine wide_call (pairs_any A B _ _ _ _ _) ?_
  rintro e w' ⟨rfl, rfl⟩
  obtain ⟨W0, hW0⟩ : ∃ W0, ((w2.alloc (.cells #[.slice none 0 0] 39)).alloc (.cells #[.slice A a.length c] 23)).alloc (.cells #[.slice B b.length d] 23) = W0 := ⟨_, rfl⟩
  have hs0 : W0.heap.size = w2.heap.size + 3 := by rw [← hW0]; simp
  have x0 : Boxed W0 w2.heap.size 39 (.slice none 0 0) := by rw [← hW0]; exact ((Boxed.new w2 _ _).alloc _).alloc _
  have x1 : Boxed W0 (w2.heap.size + 1) 23 (.slice A a.length c) := by
    rw [← hW0]; have := Boxed.new (w2.alloc (.cells #[.slice none 0 0] 39)) 23 (.slice A a.length c); rw [World.size_alloc] at this; exact this.alloc _
  have x2 : Boxed W0 (w2.heap.size + 2) 23 (.slice B b.length d) := by
    rw [← hW0]; have := Boxed.new ((w2.alloc (.cells #[.slice none 0 0] 39)).alloc (.cells #[.slice A a.length c] 23)) 23 (.slice B b.length d); simp only [World.size_alloc] at this; exact this
  have hB0 : Below w2.heap.size w2 W0 := by
    rw [← hW0]; exact (((Below.refl _ w2).alloc (Nat.le_refl _) _).alloc (by simp) _).alloc (by simp; omega) _
  rw [hW0]
  clear hW0
  gi_wp2
  have hK0 := tree_low ha2 hb3
  obtain ⟨i0, hi, hz0, hz1, hz2⟩ := info_parts delta_info
  refine wpIn_rangeList rfl (fun h => absurd h (by decide)) (gf := 70) (lb := #[.pointer (some ⟨w2.heap.size + 1, 0, none⟩), .pointer (some ⟨w2.heap.size + 2, 0, none⟩)]) rfl trivial (enters_of Tryz.func70 (by kernel_rfl) rfl)
    (pairs_list _ (w2.heap.size + 1) (w2.heap.size + 2) A B c d a b W0 (by omega) (by omega) ha.cap hb.cap ha.capm hb.capm x1 x2 (ha2.below hB0).row (hb3.below hB0).row) KeepsB.trans (keepsB_b (fun k h => by have := hK0 k h; omega)) (fun r h => h.elim) (Below.refl _ _) (fun _ => rfl)
    (DiffI a b w2) (fun _ _ _ => False) (diffI_own a b w2 _ (by omega)) (fun _ _ _ _ _ h _ _ => h) ⟨_, [], x0, DeltasAt.nil _ _, rfl, Nat.zero_le _, hB0⟩
    (fun x a' _ => a' = { tmps := #[.slice A a.length c, .slice B b.length d, undef, undef, .slice none 0 0, .pointer (some ⟨w2.heap.size, 0, none⟩), ptrV A x.1, ptrV B x.2, .slice A a.length c, .bool true, .bool false, .bool false, .slice B b.length d, .bool true, .bool false, .bool false, .slice A a.length c, .slice B b.length d, .func (.func 70) #[] #[.pointer (some ⟨w2.heap.size + 1, 0, none⟩), .pointer (some ⟨w2.heap.size + 2, 0, none⟩)], ptrV A x.1, ptrV B x.2, undef, undef, undef, undef, undef, undef, undef, undef, undef, undef, undef, undef, undef, undef, undef, undef, undef, undef, undef, undef, undef, undef, undef, undef, undef, undef, undef, undef, undef, undef, undef, undef, undef, undef, undef, undef, undef, undef, undef, undef, undef, undef, undef, undef, undef, undef, undef, undef, undef, undef, undef, undef], defers := [] }) (fun _ _ _ _ _ _ hs _ _ => hs) ?assign ?body ?done ?stop
  case assign =>
    intro l k x W K hi1 hK2
    simp only [encP]
    gi_wp2
    exact hK2 _ _ (KeepsFrom.refl _ _) (KeepsB.refl _ _) hi1 rfl
  case body =>
    have mixed : Tryz.prog.follows .mixedOrders = true := by kernel_rfl
    rintro l k x a' W hlW _ ⟨v, l0, y0, hdel, hl0, hlk, hB⟩ rfl hx
    have hin := pairsN_in (flsX a) (flsX b) _ _ 0 0 rfl rfl x (List.mem_of_getElem? hx)
    have hst := toldP_snoc a b k x hx
    have hkl : k < a.length + b.length := by
      have h1 := (List.getElem?_eq_some_iff.1 hx).1
      have h2 := pairsN_length (flsX a) (flsX b) 0 0
      rw [flsX_length, flsX_length] at h2
      exact Nat.lt_of_lt_of_le h1 h2
    have HX := Lib.hid hx; clear hx
    have HL := Lib.hid hl0; clear hl0
    obtain ⟨Av, nv, cv, rfl⟩ : ∃ A n c, v = .slice A n c := by
      rcases hdel.own.2 with ⟨rfl, _⟩ | ⟨g, cap, cur, rfl, _⟩
      · exact ⟨_, _, _, rfl⟩
      · exact ⟨_, _, _, rfl⟩
    have HI := Lib.hid hi; clear hi
    rcases x with ⟨_ | i, _ | j⟩
    · exact hin.elim
    · have hj : j < b.length := by have : j < (flsX b).length := hin; rwa [flsX_length] at this
      clear hin
      obtain ⟨xb, hxb⟩ : ∃ xb, b[j]? = some xb := ⟨_, List.getElem?_eq_getElem hj⟩
      obtain ⟨g, o, rfl, hr⟩ := hb3.row (by omega)
      obtain ⟨c1, c2⟩ := hr j xb hxb
      have hg : g < w2.heap.size := World.block_lt_of_cell? w2 (a := ⟨g, o + j * 2, none⟩) c1
      have hbyt := hb3.files xb (List.mem_of_getElem? hxb)
      have hbl := body_len RB.out hxb
      have ht : delP (flsX a) (flsX b) (none, some j) = [⟨1, xb.p.data.toList, xb.b⟩] := by
        simp only [delP, getD_of (A := flsX b) (i := j) (x := xb.fl) (by rw [flsX_getElem?, hxb]; rfl)]; rfl
      have HT := Lib.hid (hst.trans (congrArg _ ht)); clear hst ht
      clear hr
      simp only [ptrV, Option.map_some]
      gi_wp2
      obtain ⟨Wd, hWd⟩ : ∃ Wd, W.drew = Wd := ⟨_, rfl⟩
      have hM : Mid w2 W Wd (.slice Av nv cv) l0 := by rw [← hWd]; exact (⟨y0, hdel, hB, KeepsOthers.refl W⟩ : Mid w2 W W _ l0).drew
      have hS : ∀ W', Below w2.heap.size w2 W' → W'.cell? ⟨g, o + j * 2, none⟩ = some (.string xb.p) ∧ W'.cell? ⟨g, o + j * 2 + 1, none⟩ = some (.slice xb.A xb.b.length xb.c) := fun W' hW' => ⟨(hW'.cell (p := ⟨g, o + j * 2, none⟩) hg).trans c1, (hW'.cell (p := ⟨g, o + j * 2 + 1, none⟩) hg).trans c2⟩
      refine wpIn_round_held (S := fun W' => W'.cell? ⟨g, o + j * 2, none⟩ = some (.string xb.p) ∧ W'.cell? ⟨g, o + j * 2 + 1, none⟩ = some (.slice xb.A xb.b.length xb.c)) mixed (by kernel_rfl) (by rw [hWd]; exact hS _ hM.bel) (fun hHeld => ?_)
      rw [hWd] at hHeld ⊢
      have hi := HI.out
      refine wpAnyH_take (i := 1) (v := ?vq1_) rfl (by kernel_rfl) (by kernel_rfl) (by kernel_rfl) (fun _ _ _ h => h) (Or.inl ⟨by rfl, ?yq1_⟩) (by assumption) ?rq1_
      case yq1_ =>
        intro w hSw
        (try dsimp only at hSw)
        go_simp
        first | done | with_reducible rfl
      try simp only [Act.put, List.getElem_toArray, List.getElem_cons_zero, List.getElem_cons_succ, List.setIfInBounds_toArray, List.set_cons_zero, List.set_cons_succ]
      refine wpAnyH_take (i := 2) (v := ?vq2_) rfl (by kernel_rfl) (by kernel_rfl) (by kernel_rfl) (fun _ _ _ h => h) (Or.inl ⟨by rfl, ?yq2_⟩) (by assumption) ?rq2_
      case yq2_ =>
        intro w hSw
        (try dsimp only at hSw)
        go_simp
        first | done | with_reducible rfl
      try simp only [Act.put, List.getElem_toArray, List.getElem_cons_zero, List.getElem_cons_succ, List.setIfInBounds_toArray, List.set_cons_zero, List.set_cons_succ]
      refine wpAnyH_take (i := 3) (v := ?vq3_) rfl (by kernel_rfl) (by kernel_rfl) (by kernel_rfl) (fun _ _ _ h => h) (Or.inl ⟨by rfl, ?yq3_⟩) (by assumption) ?rq3_
      case yq3_ =>
        intro w hSw
        (try dsimp only at hSw)
        go_simp
        first | done | with_reducible rfl
      try simp only [Act.put, List.getElem_toArray, List.getElem_cons_zero, List.getElem_cons_succ, List.setIfInBounds_toArray, List.set_cons_zero, List.set_cons_succ]
      refine wpAnyH_take (i := 4) (v := ?vq4_) rfl (by kernel_rfl) (by kernel_rfl) (by kernel_rfl) (fun _ _ _ h => h) (Or.inl ⟨by rfl, ?yq4_⟩) (by assumption) ?rq4_
      case yq4_ =>
        intro w hSw
        (try dsimp only at hSw)
        go_simp
        first | done | with_reducible rfl
      try simp only [Act.put, List.getElem_toArray, List.getElem_cons_zero, List.getElem_cons_succ, List.setIfInBounds_toArray, List.set_cons_zero, List.set_cons_succ]
      refine wpAnyH_take (i := 5) (v := ?vq5_) rfl (by kernel_rfl) (by kernel_rfl) (by kernel_rfl) (fun _ _ _ h => h) (Or.inl ⟨by rfl, ?yq5_⟩) (by assumption) ?rq5_
      case yq5_ =>
        intro w hSw
        (try dsimp only at hSw)
        go_simp
        first | done | with_reducible rfl
      try simp only [Act.put, List.getElem_toArray, List.getElem_cons_zero, List.getElem_cons_succ, List.setIfInBounds_toArray, List.set_cons_zero, List.set_cons_succ]
      refine wpAnyH_take (i := 6) (v := ?vq6_) rfl (by kernel_rfl) (by kernel_rfl) (by kernel_rfl) (fun _ _ _ h => h) (Or.inl ⟨by rfl, ?yq6_⟩) (by assumption) ?rq6_
      case yq6_ =>
        intro w hSw
        (try dsimp only at hSw)
        go_simp
        first | done | with_reducible rfl
      try simp only [Act.put, List.getElem_toArray, List.getElem_cons_zero, List.getElem_cons_succ, List.setIfInBounds_toArray, List.set_cons_zero, List.set_cons_succ]
      refine wpAnyH_take (i := 7) (v := ?vq7_) rfl (by kernel_rfl) (by kernel_rfl) (by kernel_rfl) (fun _ _ _ h => h) (Or.inl ⟨by rfl, ?yq7_⟩) (by assumption) ?rq7_
      case yq7_ =>
        intro w hSw
        (try dsimp only at hSw)
        go_simp
        first | done | with_reducible rfl
      try simp only [Act.put, List.getElem_toArray, List.getElem_cons_zero, List.getElem_cons_succ, List.setIfInBounds_toArray, List.set_cons_zero, List.set_cons_succ]
      refine wpAnyH_take (i := 8) (v := ?vq8_) rfl (by kernel_rfl) (by kernel_rfl) (by kernel_rfl) (fun _ _ _ h => h) (Or.inl ⟨by rfl, ?yq8_⟩) (by assumption) ?rq8_
      case yq8_ =>
        intro w hSw
        (try dsimp only at hSw)
        go_simp
        first | done | with_reducible rfl
      try simp only [Act.put, List.getElem_toArray, List.getElem_cons_zero, List.getElem_cons_succ, List.setIfInBounds_toArray, List.set_cons_zero, List.set_cons_succ]
      refine wpAnyH_ready (rs := [0, 9]) (by kernel_rfl) (by simp) ?_
      refine AllReadyH.cons rfl (fun K hK => ?_) ?_
      · have c0 := hM.box.cell
        go_simp
        clear c0
        refine hK.out _ _ (hS _ hM.bel) (fun hHeld => ?_)
        clear hK K
        try simp only [Act.put, List.getElem_toArray, List.getElem_cons_zero, List.getElem_cons_succ, List.setIfInBounds_toArray, List.set_cons_zero, List.set_cons_succ]
        refine wpAnyH_ready (rs := [9]) (by kernel_rfl) (by simp) ?_
        refine AllReadyH.cons rfl (fun K hK => ?_) AllReadyH.nil
        go_simp
        refine (bclone_any xb.A xb.c xb.b _ (hbyt.below hM.bel) hbl).mono ?_
        rintro e w5 ⟨A5, c5, rfl, hbo, hb5⟩
        have hM := hM.below hb5
        clear hb5
        go_wp2_with fail
        refine hK.out _ _ (hS _ hM.bel) (fun hHeld => ?_)
        clear hK K
        try simp only [Act.put, List.getElem_toArray, List.getElem_cons_zero, List.getElem_cons_succ, List.setIfInBounds_toArray, List.set_cons_zero, List.set_cons_succ]
        refine wpAnyH_take (i := 10) (v := ?vq9_) rfl (by kernel_rfl) (by kernel_rfl) (by kernel_rfl) (fun _ _ _ h => h) (Or.inl ⟨by rfl, ?yq9_⟩) (by assumption) ?rq9_
        case yq9_ =>
          intro w hSw
          (try dsimp only at hSw)
          go_simp
          first | done | with_reducible rfl
        try simp only [Act.put, List.getElem_toArray, List.getElem_cons_zero, List.getElem_cons_succ, List.setIfInBounds_toArray, List.set_cons_zero, List.set_cons_succ]
        refine wpAnyH_ready (rs := [11]) (by kernel_rfl) (by simp) ?_
        refine AllReadyH.cons rfl (fun K hK => ?_) AllReadyH.nil
        go_simp
        have hN : (w5.alloc (Obj.cells #[.int .i64 1, .string xb.p, .slice A5 xb.b.length c5] 62)).heap[w5.heap.size]? = some (Obj.cells _ _ (0, 0)) := heap_alloc_new w5 (Obj.cells #[.int .i64 1, .string xb.p, .slice A5 xb.b.length c5] 62)
        have hbo := hbo.below ((Below.refl _ w5).alloc (Nat.le_refl _) (Obj.cells #[.int .i64 1, .string xb.p, .slice A5 xb.b.length c5] 62))
        have hM := hM.alloc (Obj.cells #[.int .i64 1, .string xb.p, .slice A5 xb.b.length c5] 62)
        refine hK.out _ _ (hS _ hM.bel) (fun hHeld => ?_)
        clear hK K
        try simp only [Act.put, List.getElem_toArray, List.getElem_cons_zero, List.getElem_cons_succ, List.setIfInBounds_toArray, List.set_cons_zero, List.set_cons_succ]
        refine wpAnyH_ready (rs := [12]) (by kernel_rfl) (by simp) ?_
        refine AllReadyH.cons rfl (fun K hK => ?_) AllReadyH.nil
        refine step_wanted rfl (wp_append_own _ (.tmp 24) (.tmp 35) 39 rfl (w2.heap.size + 1) 62 i0 (.agg #[.int .i64 0, .string ⟨#[]⟩, .slice none 0 0]) 3 48 Tryz.underlying39 hi hz0 hz1 hz2 rfl (by decide) (.slice Av nv cv) l0.length (dcells l0) rfl hM.del.own ⟨w5.heap.size, 0, none⟩ 1 1 (DX.cs ⟨1, xb.p, A5, c5, xb.b⟩) rfl rfl ?_ DX.one (by unfold maxLen; omega) (by omega) (by have := hM.box.lt; omega) ?_)
        · intro j u hu
          rw [Go.WideShapes.add_plain, Nat.zero_add]
          exact (cell_of_row _ _ j _ _ _ hN).trans (by simpa [DX.cs] using hu)
        intro v' W' hown hgrow _
        obtain ⟨g3, cap3, rfl⟩ := ownsRow_succ hown
        obtain ⟨m1, m2, m3, m4⟩ := hM.append (x := ⟨1, xb.p, A5, c5, xb.b⟩) hbo hown hgrow
        clear hown hgrow hM hN
        refine hK.out _ _ (hS _ m3) (fun hHeld => ?_)
        clear hK K
        try simp only [Act.put, List.getElem_toArray, List.getElem_cons_zero, List.getElem_cons_succ, List.setIfInBounds_toArray, List.set_cons_zero, List.set_cons_succ]
        refine wpAnyH_ready (rs := [13]) (by kernel_rfl) (by simp) ?_
        refine AllReadyH.cons rfl (fun K hK => ?_) AllReadyH.nil
        have c0 := m1.cell
        have f0 := m1.frozen
        go_simp
        clear c0 f0
        have hM := Mid.store m1 m2 m3 m4
        refine hK.out _ _ (hS _ hM.bel) (fun hHeld => ?_)
        clear hK K
        try simp only [Act.put, List.getElem_toArray, List.getElem_cons_zero, List.getElem_cons_succ, List.setIfInBounds_toArray, List.set_cons_zero, List.set_cons_succ]
        refine wpAnyH_done (by kernel_rfl) ?_ _
        simp only [NoOut]
        gi_wp2
        exact ⟨hM.oth.from _, KeepsB.of_below (below_back hB hM.bel hM.oth.size) hK0, _, _, hM.box, hM.del, by rw [List.map_append, HL.out, HT.out]; rfl, by rw [List.length_append]; show _ + 1 ≤ _; omega, hM.bel⟩
      refine AllReadyH.cons rfl (fun K hK => ?_) AllReadyH.nil
      go_simp
      refine (bclone_any xb.A xb.c xb.b _ (hbyt.below hM.bel) hbl).mono ?_
      rintro e w5 ⟨A5, c5, rfl, hbo, hb5⟩
      have hM := hM.below hb5
      clear hb5
      go_wp2_with fail
      refine hK.out _ _ (hS _ hM.bel) (fun hHeld => ?_)
      clear hK K
      try simp only [Act.put, List.getElem_toArray, List.getElem_cons_zero, List.getElem_cons_succ, List.setIfInBounds_toArray, List.set_cons_zero, List.set_cons_succ]
      refine wpAnyH_take (i := 10) (v := ?vq10_) rfl (by kernel_rfl) (by kernel_rfl) (by kernel_rfl) (fun _ _ _ h => h) (Or.inl ⟨by rfl, ?yq10_⟩) (by assumption) ?rq10_
      case yq10_ =>
        intro w hSw
        (try dsimp only at hSw)
        go_simp
        first | done | with_reducible rfl
      try simp only [Act.put, List.getElem_toArray, List.getElem_cons_zero, List.getElem_cons_succ, List.setIfInBounds_toArray, List.set_cons_zero, List.set_cons_succ]
      refine wpAnyH_ready (rs := [0, 11]) (by kernel_rfl) (by simp) ?_
      refine AllReadyH.cons rfl (fun K hK => ?_) ?_
      · have c0 := hM.box.cell
        go_simp
        clear c0
        refine hK.out _ _ (hS _ hM.bel) (fun hHeld => ?_)
        clear hK K
        try simp only [Act.put, List.getElem_toArray, List.getElem_cons_zero, List.getElem_cons_succ, List.setIfInBounds_toArray, List.set_cons_zero, List.set_cons_succ]
        refine wpAnyH_ready (rs := [11]) (by kernel_rfl) (by simp) ?_
        refine AllReadyH.cons rfl (fun K hK => ?_) AllReadyH.nil
        go_simp
        have hN : (w5.alloc (Obj.cells #[.int .i64 1, .string xb.p, .slice A5 xb.b.length c5] 62)).heap[w5.heap.size]? = some (Obj.cells _ _ (0, 0)) := heap_alloc_new w5 (Obj.cells #[.int .i64 1, .string xb.p, .slice A5 xb.b.length c5] 62)
        have hbo := hbo.below ((Below.refl _ w5).alloc (Nat.le_refl _) (Obj.cells #[.int .i64 1, .string xb.p, .slice A5 xb.b.length c5] 62))
        have hM := hM.alloc (Obj.cells #[.int .i64 1, .string xb.p, .slice A5 xb.b.length c5] 62)
        refine hK.out _ _ (hS _ hM.bel) (fun hHeld => ?_)
        clear hK K
        try simp only [Act.put, List.getElem_toArray, List.getElem_cons_zero, List.getElem_cons_succ, List.setIfInBounds_toArray, List.set_cons_zero, List.set_cons_succ]
        refine wpAnyH_ready (rs := [12]) (by kernel_rfl) (by simp) ?_
        refine AllReadyH.cons rfl (fun K hK => ?_) AllReadyH.nil
        refine step_wanted rfl (wp_append_own _ (.tmp 24) (.tmp 35) 39 rfl (w2.heap.size + 1) 62 i0 (.agg #[.int .i64 0, .string ⟨#[]⟩, .slice none 0 0]) 3 48 Tryz.underlying39 hi hz0 hz1 hz2 rfl (by decide) (.slice Av nv cv) l0.length (dcells l0) rfl hM.del.own ⟨w5.heap.size, 0, none⟩ 1 1 (DX.cs ⟨1, xb.p, A5, c5, xb.b⟩) rfl rfl ?_ DX.one (by unfold maxLen; omega) (by omega) (by have := hM.box.lt; omega) ?_)
        · intro j u hu
          rw [Go.WideShapes.add_plain, Nat.zero_add]
          exact (cell_of_row _ _ j _ _ _ hN).trans (by simpa [DX.cs] using hu)
        intro v' W' hown hgrow _
        obtain ⟨g3, cap3, rfl⟩ := ownsRow_succ hown
        obtain ⟨m1, m2, m3, m4⟩ := hM.append (x := ⟨1, xb.p, A5, c5, xb.b⟩) hbo hown hgrow
        clear hown hgrow hM hN
        refine hK.out _ _ (hS _ m3) (fun hHeld => ?_)
        clear hK K
        try simp only [Act.put, List.getElem_toArray, List.getElem_cons_zero, List.getElem_cons_succ, List.setIfInBounds_toArray, List.set_cons_zero, List.set_cons_succ]
        refine wpAnyH_ready (rs := [13]) (by kernel_rfl) (by simp) ?_
        refine AllReadyH.cons rfl (fun K hK => ?_) AllReadyH.nil
        have c0 := m1.cell
        have f0 := m1.frozen
        go_simp
        clear c0 f0
        have hM := Mid.store m1 m2 m3 m4
        refine hK.out _ _ (hS _ hM.bel) (fun hHeld => ?_)
        clear hK K
        try simp only [Act.put, List.getElem_toArray, List.getElem_cons_zero, List.getElem_cons_succ, List.setIfInBounds_toArray, List.set_cons_zero, List.set_cons_succ]
        refine wpAnyH_done (by kernel_rfl) ?_ _
        simp only [NoOut]
        gi_wp2
        exact ⟨hM.oth.from _, KeepsB.of_below (below_back hB hM.bel hM.oth.size) hK0, _, _, hM.box, hM.del, by rw [List.map_append, HL.out, HT.out]; rfl, by rw [List.length_append]; show _ + 1 ≤ _; omega, hM.bel⟩
      refine AllReadyH.cons rfl (fun K hK => ?_) AllReadyH.nil
      go_simp
      have hN : (w5.alloc (Obj.cells #[.int .i64 1, .string xb.p, .slice A5 xb.b.length c5] 62)).heap[w5.heap.size]? = some (Obj.cells _ _ (0, 0)) := heap_alloc_new w5 (Obj.cells #[.int .i64 1, .string xb.p, .slice A5 xb.b.length c5] 62)
      have hbo := hbo.below ((Below.refl _ w5).alloc (Nat.le_refl _) (Obj.cells #[.int .i64 1, .string xb.p, .slice A5 xb.b.length c5] 62))
      have hM := hM.alloc (Obj.cells #[.int .i64 1, .string xb.p, .slice A5 xb.b.length c5] 62)
      refine hK.out _ _ (hS _ hM.bel) (fun hHeld => ?_)
      clear hK K
      try simp only [Act.put, List.getElem_toArray, List.getElem_cons_zero, List.getElem_cons_succ, List.setIfInBounds_toArray, List.set_cons_zero, List.set_cons_succ]
      refine wpAnyH_ready (rs := [0]) (by kernel_rfl) (by simp) ?_
      refine AllReadyH.cons rfl (fun K hK => ?_) AllReadyH.nil
      have c0 := hM.box.cell
      go_simp
      clear c0
      refine hK.out _ _ (hS _ hM.bel) (fun hHeld => ?_)
      clear hK K
      try simp only [Act.put, List.getElem_toArray, List.getElem_cons_zero, List.getElem_cons_succ, List.setIfInBounds_toArray, List.set_cons_zero, List.set_cons_succ]
      refine wpAnyH_ready (rs := [12]) (by kernel_rfl) (by simp) ?_
      refine AllReadyH.cons rfl (fun K hK => ?_) AllReadyH.nil
      refine step_wanted rfl (wp_append_own _ (.tmp 24) (.tmp 35) 39 rfl (w2.heap.size + 1) 62 i0 (.agg #[.int .i64 0, .string ⟨#[]⟩, .slice none 0 0]) 3 48 Tryz.underlying39 hi hz0 hz1 hz2 rfl (by decide) (.slice Av nv cv) l0.length (dcells l0) rfl hM.del.own ⟨w5.heap.size, 0, none⟩ 1 1 (DX.cs ⟨1, xb.p, A5, c5, xb.b⟩) rfl rfl ?_ DX.one (by unfold maxLen; omega) (by omega) (by have := hM.box.lt; omega) ?_)
      · intro j u hu
        rw [Go.WideShapes.add_plain, Nat.zero_add]
        exact (cell_of_row _ _ j _ _ _ hN).trans (by simpa [DX.cs] using hu)
      intro v' W' hown hgrow _
      obtain ⟨g3, cap3, rfl⟩ := ownsRow_succ hown
      obtain ⟨m1, m2, m3, m4⟩ := hM.append (x := ⟨1, xb.p, A5, c5, xb.b⟩) hbo hown hgrow
      clear hown hgrow hM hN
      refine hK.out _ _ (hS _ m3) (fun hHeld => ?_)
      clear hK K
      try simp only [Act.put, List.getElem_toArray, List.getElem_cons_zero, List.getElem_cons_succ, List.setIfInBounds_toArray, List.set_cons_zero, List.set_cons_succ]
      refine wpAnyH_ready (rs := [13]) (by kernel_rfl) (by simp) ?_
      refine AllReadyH.cons rfl (fun K hK => ?_) AllReadyH.nil
      have c0 := m1.cell
      have f0 := m1.frozen
      go_simp
      clear c0 f0
      have hM := Mid.store m1 m2 m3 m4
      refine hK.out _ _ (hS _ hM.bel) (fun hHeld => ?_)
      clear hK K
      try simp only [Act.put, List.getElem_toArray, List.getElem_cons_zero, List.getElem_cons_succ, List.setIfInBounds_toArray, List.set_cons_zero, List.set_cons_succ]
      refine wpAnyH_done (by kernel_rfl) ?_ _
      simp only [NoOut]
      gi_wp2
      exact ⟨hM.oth.from _, KeepsB.of_below (below_back hB hM.bel hM.oth.size) hK0, _, _, hM.box, hM.del, by rw [List.map_append, HL.out, HT.out]; rfl, by rw [List.length_append]; show _ + 1 ≤ _; omega, hM.bel⟩
    · have hi1 : i < a.length := by have : i < (flsX a).length := hin; rwa [flsX_length] at this
      clear hin
      obtain ⟨xa, hxa⟩ : ∃ xa, a[i]? = some xa := ⟨_, List.getElem?_eq_getElem hi1⟩
      obtain ⟨g, o, rfl, hr⟩ := ha2.row (by omega)
      obtain ⟨c1, _⟩ := hr i xa hxa
      have hg : g < w2.heap.size := World.block_lt_of_cell? w2 (a := ⟨g, o + i * 2, none⟩) c1
      have ht : delP (flsX a) (flsX b) (some i, none) = [⟨3, xa.p.data.toList, []⟩] := by
        simp only [delP, getD_of (A := flsX a) (i := i) (x := xa.fl) (by rw [flsX_getElem?, hxa]; rfl)]; rfl
      have HT := Lib.hid (hst.trans (congrArg _ ht)); clear hst ht
      clear hr
      simp only [ptrV, Option.map_some]
      gi_wp2
      obtain ⟨Wd, hWd⟩ : ∃ Wd, W.drew = Wd := ⟨_, rfl⟩
      have hM : Mid w2 W Wd (.slice Av nv cv) l0 := by rw [← hWd]; exact (⟨y0, hdel, hB, KeepsOthers.refl W⟩ : Mid w2 W W _ l0).drew
      have hS : ∀ W', Below w2.heap.size w2 W' → W'.cell? ⟨g, o + i * 2, none⟩ = some (.string xa.p) := fun W' hW' => (hW'.cell (p := ⟨g, o + i * 2, none⟩) hg).trans c1
      refine wpIn_round_held (S := fun W' => W'.cell? ⟨g, o + i * 2, none⟩ = some (.string xa.p)) mixed (by kernel_rfl) (by rw [hWd]; exact hS _ hM.bel) (fun hHeld => ?_)
      rw [hWd] at hHeld ⊢
      have hi := HI.out
      refine wpAnyH_take (i := 1) (v := ?vq11_) rfl (by kernel_rfl) (by kernel_rfl) (by kernel_rfl) (fun _ _ _ h => h) (Or.inl ⟨by rfl, ?yq11_⟩) (by assumption) ?rq11_
      case yq11_ =>
        intro w hSw
        (try dsimp only at hSw)
        go_simp
        first | done | with_reducible rfl
      try simp only [Act.put, List.getElem_toArray, List.getElem_cons_zero, List.getElem_cons_succ, List.setIfInBounds_toArray, List.set_cons_zero, List.set_cons_succ]
      refine wpAnyH_take (i := 2) (v := ?vq12_) rfl (by kernel_rfl) (by kernel_rfl) (by kernel_rfl) (fun _ _ _ h => h) (Or.inl ⟨by rfl, ?yq12_⟩) (by assumption) ?rq12_
      case yq12_ =>
        intro w hSw
        (try dsimp only at hSw)
        go_simp
        first | done | with_reducible rfl
      try simp only [Act.put, List.getElem_toArray, List.getElem_cons_zero, List.getElem_cons_succ, List.setIfInBounds_toArray, List.set_cons_zero, List.set_cons_succ]
      refine wpAnyH_take (i := 3) (v := ?vq13_) rfl (by kernel_rfl) (by kernel_rfl) (by kernel_rfl) (fun _ _ _ h => h) (Or.inl ⟨by rfl, ?yq13_⟩) (by assumption) ?rq13_
      case yq13_ =>
        intro w hSw
        (try dsimp only at hSw)
        go_simp
        first | done | with_reducible rfl
      try simp only [Act.put, List.getElem_toArray, List.getElem_cons_zero, List.getElem_cons_succ, List.setIfInBounds_toArray, List.set_cons_zero, List.set_cons_succ]
      refine wpAnyH_take (i := 4) (v := ?vq14_) rfl (by kernel_rfl) (by kernel_rfl) (by kernel_rfl) (fun _ _ _ h => h) (Or.inl ⟨by rfl, ?yq14_⟩) (by assumption) ?rq14_
      case yq14_ =>
        intro w hSw
        (try dsimp only at hSw)
        go_simp
        first | done | with_reducible rfl
      try simp only [Act.put, List.getElem_toArray, List.getElem_cons_zero, List.getElem_cons_succ, List.setIfInBounds_toArray, List.set_cons_zero, List.set_cons_succ]
      refine wpAnyH_take (i := 5) (v := ?vq15_) rfl (by kernel_rfl) (by kernel_rfl) (by kernel_rfl) (fun _ _ _ h => h) (Or.inl ⟨by rfl, ?yq15_⟩) (by assumption) ?rq15_
      case yq15_ =>
        intro w hSw
        (try dsimp only at hSw)
        go_simp
        first | done | with_reducible rfl
      try simp only [Act.put, List.getElem_toArray, List.getElem_cons_zero, List.getElem_cons_succ, List.setIfInBounds_toArray, List.set_cons_zero, List.set_cons_succ]
      refine wpAnyH_ready (rs := [0, 6]) (by kernel_rfl) (by simp) ?_
      refine AllReadyH.cons rfl (fun K hK => ?_) ?_
      · have c0 := hM.box.cell
        go_simp
        clear c0
        refine hK.out _ _ (hS _ hM.bel) (fun hHeld => ?_)
        clear hK K
        try simp only [Act.put, List.getElem_toArray, List.getElem_cons_zero, List.getElem_cons_succ, List.setIfInBounds_toArray, List.set_cons_zero, List.set_cons_succ]
        refine wpAnyH_ready (rs := [6]) (by kernel_rfl) (by simp) ?_
        refine AllReadyH.cons rfl (fun K hK => ?_) AllReadyH.nil
        go_simp
        have hN : (Wd.alloc (Obj.cells #[.int .i64 3, .string xa.p, .slice none 0 0] 62)).heap[Wd.heap.size]? = some (Obj.cells _ _ (0, 0)) := heap_alloc_new Wd (Obj.cells #[.int .i64 3, .string xa.p, .slice none 0 0] 62)
        have hM := hM.alloc (Obj.cells #[.int .i64 3, .string xa.p, .slice none 0 0] 62)
        refine hK.out _ _ (hS _ hM.bel) (fun hHeld => ?_)
        clear hK K
        try simp only [Act.put, List.getElem_toArray, List.getElem_cons_zero, List.getElem_cons_succ, List.setIfInBounds_toArray, List.set_cons_zero, List.set_cons_succ]
        refine wpAnyH_ready (rs := [7]) (by kernel_rfl) (by simp) ?_
        refine AllReadyH.cons rfl (fun K hK => ?_) AllReadyH.nil
        refine step_wanted rfl (wp_append_own _ (.tmp 40) (.tmp 46) 39 rfl (w2.heap.size + 1) 62 i0 (.agg #[.int .i64 0, .string ⟨#[]⟩, .slice none 0 0]) 3 48 Tryz.underlying39 hi hz0 hz1 hz2 rfl (by decide) (.slice Av nv cv) l0.length (dcells l0) rfl hM.del.own ⟨Wd.heap.size, 0, none⟩ 1 1 (DX.cs ⟨3, xa.p, none, 0, []⟩) rfl rfl ?_ DX.one (by unfold maxLen; omega) (by omega) (by have := hM.box.lt; omega) ?_)
        · intro j u hu
          rw [Go.WideShapes.add_plain, Nat.zero_add]
          exact (cell_of_row _ _ j _ _ _ hN).trans (by simpa [DX.cs] using hu)
        intro v' W' hown hgrow _
        obtain ⟨g3, cap3, rfl⟩ := ownsRow_succ hown
        obtain ⟨m1, m2, m3, m4⟩ := hM.append (x := ⟨3, xa.p, none, 0, []⟩) (BytesOwn.nil _ _) hown hgrow
        clear hown hgrow hM hN
        refine hK.out _ _ (hS _ m3) (fun hHeld => ?_)
        clear hK K
        try simp only [Act.put, List.getElem_toArray, List.getElem_cons_zero, List.getElem_cons_succ, List.setIfInBounds_toArray, List.set_cons_zero, List.set_cons_succ]
        refine wpAnyH_ready (rs := [8]) (by kernel_rfl) (by simp) ?_
        refine AllReadyH.cons rfl (fun K hK => ?_) AllReadyH.nil
        have c0 := m1.cell
        have f0 := m1.frozen
        go_simp
        clear c0 f0
        have hM := Mid.store m1 m2 m3 m4
        refine hK.out _ _ (hS _ hM.bel) (fun hHeld => ?_)
        clear hK K
        try simp only [Act.put, List.getElem_toArray, List.getElem_cons_zero, List.getElem_cons_succ, List.setIfInBounds_toArray, List.set_cons_zero, List.set_cons_succ]
        refine wpAnyH_done (by kernel_rfl) ?_ _
        simp only [NoOut]
        gi_wp2
        exact ⟨hM.oth.from _, KeepsB.of_below (below_back hB hM.bel hM.oth.size) hK0, _, _, hM.box, hM.del, by rw [List.map_append, HL.out, HT.out]; rfl, by rw [List.length_append]; show _ + 1 ≤ _; omega, hM.bel⟩
      refine AllReadyH.cons rfl (fun K hK => ?_) AllReadyH.nil
      go_simp
      have hN : (Wd.alloc (Obj.cells #[.int .i64 3, .string xa.p, .slice none 0 0] 62)).heap[Wd.heap.size]? = some (Obj.cells _ _ (0, 0)) := heap_alloc_new Wd (Obj.cells #[.int .i64 3, .string xa.p, .slice none 0 0] 62)
      have hM := hM.alloc (Obj.cells #[.int .i64 3, .string xa.p, .slice none 0 0] 62)
      refine hK.out _ _ (hS _ hM.bel) (fun hHeld => ?_)
      clear hK K
      try simp only [Act.put, List.getElem_toArray, List.getElem_cons_zero, List.getElem_cons_succ, List.setIfInBounds_toArray, List.set_cons_zero, List.set_cons_succ]
      refine wpAnyH_ready (rs := [0]) (by kernel_rfl) (by simp) ?_
      refine AllReadyH.cons rfl (fun K hK => ?_) AllReadyH.nil
      have c0 := hM.box.cell
      go_simp
      clear c0
      refine hK.out _ _ (hS _ hM.bel) (fun hHeld => ?_)
      clear hK K
      try simp only [Act.put, List.getElem_toArray, List.getElem_cons_zero, List.getElem_cons_succ, List.setIfInBounds_toArray, List.set_cons_zero, List.set_cons_succ]
      refine wpAnyH_ready (rs := [7]) (by kernel_rfl) (by simp) ?_
      refine AllReadyH.cons rfl (fun K hK => ?_) AllReadyH.nil
      refine step_wanted rfl (wp_append_own _ (.tmp 40) (.tmp 46) 39 rfl (w2.heap.size + 1) 62 i0 (.agg #[.int .i64 0, .string ⟨#[]⟩, .slice none 0 0]) 3 48 Tryz.underlying39 hi hz0 hz1 hz2 rfl (by decide) (.slice Av nv cv) l0.length (dcells l0) rfl hM.del.own ⟨Wd.heap.size, 0, none⟩ 1 1 (DX.cs ⟨3, xa.p, none, 0, []⟩) rfl rfl ?_ DX.one (by unfold maxLen; omega) (by omega) (by have := hM.box.lt; omega) ?_)
      · intro j u hu
        rw [Go.WideShapes.add_plain, Nat.zero_add]
        exact (cell_of_row _ _ j _ _ _ hN).trans (by simpa [DX.cs] using hu)
      intro v' W' hown hgrow _
      obtain ⟨g3, cap3, rfl⟩ := ownsRow_succ hown
      obtain ⟨m1, m2, m3, m4⟩ := hM.append (x := ⟨3, xa.p, none, 0, []⟩) (BytesOwn.nil _ _) hown hgrow
      clear hown hgrow hM hN
      refine hK.out _ _ (hS _ m3) (fun hHeld => ?_)
      clear hK K
      try simp only [Act.put, List.getElem_toArray, List.getElem_cons_zero, List.getElem_cons_succ, List.setIfInBounds_toArray, List.set_cons_zero, List.set_cons_succ]
      refine wpAnyH_ready (rs := [8]) (by kernel_rfl) (by simp) ?_
      refine AllReadyH.cons rfl (fun K hK => ?_) AllReadyH.nil
      have c0 := m1.cell
      have f0 := m1.frozen
      go_simp
      clear c0 f0
      have hM := Mid.store m1 m2 m3 m4
      refine hK.out _ _ (hS _ hM.bel) (fun hHeld => ?_)
      clear hK K
      try simp only [Act.put, List.getElem_toArray, List.getElem_cons_zero, List.getElem_cons_succ, List.setIfInBounds_toArray, List.set_cons_zero, List.set_cons_succ]
      refine wpAnyH_done (by kernel_rfl) ?_ _
      simp only [NoOut]
      gi_wp2
      exact ⟨hM.oth.from _, KeepsB.of_below (below_back hB hM.bel hM.oth.size) hK0, _, _, hM.box, hM.del, by rw [List.map_append, HL.out, HT.out]; rfl, by rw [List.length_append]; show _ + 1 ≤ _; omega, hM.bel⟩
    · have hij : i < a.length ∧ j < b.length := by
        have : i < (flsX a).length ∧ j < (flsX b).length := hin
        rwa [flsX_length, flsX_length] at this
      clear hin
      obtain ⟨xa, hxa⟩ : ∃ xa, a[i]? = some xa := ⟨_, List.getElem?_eq_getElem hij.1⟩
      obtain ⟨xb, hxb⟩ : ∃ xb, b[j]? = some xb := ⟨_, List.getElem?_eq_getElem hij.2⟩
      obtain ⟨g, o, rfl, hr⟩ := ha2.row (by omega)
      obtain ⟨g', o', rfl, hr'⟩ := hb3.row (by omega)
      obtain ⟨c1, c2⟩ := hr i xa hxa
      obtain ⟨d1, d2⟩ := hr' j xb hxb
      have hg : g < w2.heap.size := World.block_lt_of_cell? w2 (a := ⟨g, o + i * 2, none⟩) c1
      have hg' : g' < w2.heap.size := World.block_lt_of_cell? w2 (a := ⟨g', o' + j * 2, none⟩) d1
      have hbyt := hb3.files xb (List.mem_of_getElem? hxb)
      have q1 := (ha2.files xa (List.mem_of_getElem? hxa)).below (w' := W) hB
      have q2 := hbyt.below (w' := W) hB
      have hbl := body_len RB.out hxb
      have e2 : W.cell? ⟨g, o + i * 2 + 1, none⟩ = some (.slice xa.A xa.b.length xa.c) := (hB.cell (p := ⟨g, o + i * 2 + 1, none⟩) hg).trans c2
      have e4 : W.cell? ⟨g', o' + j * 2 + 1, none⟩ = some (.slice xb.A xb.b.length xb.c) := (hB.cell (p := ⟨g', o' + j * 2 + 1, none⟩) hg').trans d2
      have ht : delP (flsX a) (flsX b) (some i, some j) = if (Lib.bytesOf (numsB xa.b) == Lib.bytesOf (numsB xb.b)) = true then [] else [⟨2, xb.p.data.toList, xb.b⟩] := by
        simp only [delP, getD_of (A := flsX b) (i := j) (x := xb.fl) (by rw [flsX_getElem?, hxb]; rfl), getD_of (A := flsX a) (i := i) (x := xa.fl) (by rw [flsX_getElem?, hxa]; rfl), bytesOf_numsB]; rfl
      have Q1 := Lib.hid q1; clear q1
      have Q2 := Lib.hid q2; clear q2
      clear hr hr' c1 c2
      simp only [ptrV, Option.map_some]
      cases hq : (Lib.bytesOf (numsB xa.b) == Lib.bytesOf (numsB xb.b)) with
      | true =>
        have ht2 := hst.trans (congrArg _ (ht.trans (if_pos hq)))
        have HT := Lib.hid ht2; clear ht2 hst ht
        have HQ := Lib.hid hq; clear hq
        have Y0 := Lib.hid y0; clear y0
        have hwf : Fence.wide.fn 51 := trivial
        gi_wp2
        refine wpIn_round_quiet_lit rfl mixed (by kernel_rfl) (by kernel_rfl) ?_
        repeat (gi_big_quiet_step (exact beq_quiet xa xb _ HQ.out Q1.out Q2.out _ _ _))
        refine wpQuietIn_nil ?_
        intro _ hw'
        obtain ⟨nq, hw''⟩ := hw'
        subst hw''
        gi_wp2
        exact ⟨(keepsO_drewN W _).from _, ⟨Nat.le_refl _, fun _ _ _ => rfl⟩, _, _, boxed_drewN Y0.out, hdel.below (below_drewN0 (Below.refl _ _) _), by rw [HL.out, HT.out, List.append_nil], by omega, below_drewN0 hB _⟩
      | false =>
        have ht2 := hst.trans (congrArg _ (ht.trans (if_neg (by rw [hq]; simp))))
        have HT := Lib.hid ht2; clear ht2 hst ht
        have HQ := Lib.hid hq; clear hq
        have Y0 := Lib.hid y0; clear y0
        have hwf : Fence.wide.fn 51 := trivial
        gi_wp2
        refine wpIn_round_quiet_lit rfl mixed (by kernel_rfl) (by kernel_rfl) ?_
        repeat (gi_big_quiet_step (exact beq_quiet xa xb _ HQ.out Q1.out Q2.out _ _ _))
        refine wpQuietIn_nil ?_
        intro _ hw'
        obtain ⟨nq, hw''⟩ := hw'
        subst hw''
        gi_wp2
        have y0 := Y0.out
        clear hwf e2 e4
        obtain ⟨Wd, hWd⟩ : ∃ Wd, (W.drewN nq).drew = Wd := ⟨_, rfl⟩
        have hM : Mid w2 W Wd (.slice Av nv cv) l0 := by rw [← hWd]; exact (⟨y0, hdel, hB, KeepsOthers.refl W⟩ : Mid w2 W W _ l0).below (below_drewN0 (Below.refl _ _) nq) |>.drew
        have hS : ∀ W', Below w2.heap.size w2 W' → W'.cell? ⟨g', o' + j * 2, none⟩ = some (.string xb.p) ∧ W'.cell? ⟨g', o' + j * 2 + 1, none⟩ = some (.slice xb.A xb.b.length xb.c) := fun W' hW' => ⟨(hW'.cell (p := ⟨g', o' + j * 2, none⟩) hg').trans d1, (hW'.cell (p := ⟨g', o' + j * 2 + 1, none⟩) hg').trans d2⟩
        refine wpIn_round_held (S := fun W' => W'.cell? ⟨g', o' + j * 2, none⟩ = some (.string xb.p) ∧ W'.cell? ⟨g', o' + j * 2 + 1, none⟩ = some (.slice xb.A xb.b.length xb.c)) mixed (by kernel_rfl) (by rw [hWd]; exact hS _ hM.bel) (fun hHeld => ?_)
        rw [hWd] at hHeld ⊢
        have hi := HI.out
        refine wpAnyH_take (i := 1) (v := ?vq16_) rfl (by kernel_rfl) (by kernel_rfl) (by kernel_rfl) (fun _ _ _ h => h) (Or.inl ⟨by rfl, ?yq16_⟩) (by assumption) ?rq16_
        case yq16_ =>
          intro w hSw
          (try dsimp only at hSw)
          go_simp
          first | done | with_reducible rfl
        try simp only [Act.put, List.getElem_toArray, List.getElem_cons_zero, List.getElem_cons_succ, List.setIfInBounds_toArray, List.set_cons_zero, List.set_cons_succ]
        refine wpAnyH_take (i := 2) (v := ?vq17_) rfl (by kernel_rfl) (by kernel_rfl) (by kernel_rfl) (fun _ _ _ h => h) (Or.inl ⟨by rfl, ?yq17_⟩) (by assumption) ?rq17_
        case yq17_ =>
          intro w hSw
          (try dsimp only at hSw)
          go_simp
          first | done | with_reducible rfl
        try simp only [Act.put, List.getElem_toArray, List.getElem_cons_zero, List.getElem_cons_succ, List.setIfInBounds_toArray, List.set_cons_zero, List.set_cons_succ]
        refine wpAnyH_take (i := 3) (v := ?vq18_) rfl (by kernel_rfl) (by kernel_rfl) (by kernel_rfl) (fun _ _ _ h => h) (Or.inl ⟨by rfl, ?yq18_⟩) (by assumption) ?rq18_
        case yq18_ =>
          intro w hSw
          (try dsimp only at hSw)
          go_simp
          first | done | with_reducible rfl
        try simp only [Act.put, List.getElem_toArray, List.getElem_cons_zero, List.getElem_cons_succ, List.setIfInBounds_toArray, List.set_cons_zero, List.set_cons_succ]
        refine wpAnyH_take (i := 4) (v := ?vq19_) rfl (by kernel_rfl) (by kernel_rfl) (by kernel_rfl) (fun _ _ _ h => h) (Or.inl ⟨by rfl, ?yq19_⟩) (by assumption) ?rq19_
        case yq19_ =>
          intro w hSw
          (try dsimp only at hSw)
          go_simp
          first | done | with_reducible rfl
        try simp only [Act.put, List.getElem_toArray, List.getElem_cons_zero, List.getElem_cons_succ, List.setIfInBounds_toArray, List.set_cons_zero, List.set_cons_succ]
        refine wpAnyH_take (i := 5) (v := ?vq20_) rfl (by kernel_rfl) (by kernel_rfl) (by kernel_rfl) (fun _ _ _ h => h) (Or.inl ⟨by rfl, ?yq20_⟩) (by assumption) ?rq20_
        case yq20_ =>
          intro w hSw
          (try dsimp only at hSw)
          go_simp
          first | done | with_reducible rfl
        try simp only [Act.put, List.getElem_toArray, List.getElem_cons_zero, List.getElem_cons_succ, List.setIfInBounds_toArray, List.set_cons_zero, List.set_cons_succ]
        refine wpAnyH_take (i := 6) (v := ?vq21_) rfl (by kernel_rfl) (by kernel_rfl) (by kernel_rfl) (fun _ _ _ h => h) (Or.inl ⟨by rfl, ?yq21_⟩) (by assumption) ?rq21_
        case yq21_ =>
          intro w hSw
          (try dsimp only at hSw)
          go_simp
          first | done | with_reducible rfl
        try simp only [Act.put, List.getElem_toArray, List.getElem_cons_zero, List.getElem_cons_succ, List.setIfInBounds_toArray, List.set_cons_zero, List.set_cons_succ]
        refine wpAnyH_take (i := 7) (v := ?vq22_) rfl (by kernel_rfl) (by kernel_rfl) (by kernel_rfl) (fun _ _ _ h => h) (Or.inl ⟨by rfl, ?yq22_⟩) (by assumption) ?rq22_
        case yq22_ =>
          intro w hSw
          (try dsimp only at hSw)
          go_simp
          first | done | with_reducible rfl
        try simp only [Act.put, List.getElem_toArray, List.getElem_cons_zero, List.getElem_cons_succ, List.setIfInBounds_toArray, List.set_cons_zero, List.set_cons_succ]
        refine wpAnyH_take (i := 8) (v := ?vq23_) rfl (by kernel_rfl) (by kernel_rfl) (by kernel_rfl) (fun _ _ _ h => h) (Or.inl ⟨by rfl, ?yq23_⟩) (by assumption) ?rq23_
        case yq23_ =>
          intro w hSw
          (try dsimp only at hSw)
          go_simp
          first | done | with_reducible rfl
        try simp only [Act.put, List.getElem_toArray, List.getElem_cons_zero, List.getElem_cons_succ, List.setIfInBounds_toArray, List.set_cons_zero, List.set_cons_succ]
        refine wpAnyH_ready (rs := [0, 9]) (by kernel_rfl) (by simp) ?_
        refine AllReadyH.cons rfl (fun K hK => ?_) ?_
        · have c0 := hM.box.cell
          go_simp
          clear c0
          refine hK.out _ _ (hS _ hM.bel) (fun hHeld => ?_)
          clear hK K
          try simp only [Act.put, List.getElem_toArray, List.getElem_cons_zero, List.getElem_cons_succ, List.setIfInBounds_toArray, List.set_cons_zero, List.set_cons_succ]
          refine wpAnyH_ready (rs := [9]) (by kernel_rfl) (by simp) ?_
          refine AllReadyH.cons rfl (fun K hK => ?_) AllReadyH.nil
          go_simp
          refine (bclone_any xb.A xb.c xb.b _ (hbyt.below hM.bel) hbl).mono ?_
          rintro e w5 ⟨A5, c5, rfl, hbo, hb5⟩
          have hM := hM.below hb5
          clear hb5
          go_wp2_with fail
          refine hK.out _ _ (hS _ hM.bel) (fun hHeld => ?_)
          clear hK K
          try simp only [Act.put, List.getElem_toArray, List.getElem_cons_zero, List.getElem_cons_succ, List.setIfInBounds_toArray, List.set_cons_zero, List.set_cons_succ]
          refine wpAnyH_take (i := 10) (v := ?vq24_) rfl (by kernel_rfl) (by kernel_rfl) (by kernel_rfl) (fun _ _ _ h => h) (Or.inl ⟨by rfl, ?yq24_⟩) (by assumption) ?rq24_
          case yq24_ =>
            intro w hSw
            (try dsimp only at hSw)
            go_simp
            first | done | with_reducible rfl
          try simp only [Act.put, List.getElem_toArray, List.getElem_cons_zero, List.getElem_cons_succ, List.setIfInBounds_toArray, List.set_cons_zero, List.set_cons_succ]
          refine wpAnyH_ready (rs := [11]) (by kernel_rfl) (by simp) ?_
          refine AllReadyH.cons rfl (fun K hK => ?_) AllReadyH.nil
          go_simp
          have hN : (w5.alloc (Obj.cells #[.int .i64 2, .string xb.p, .slice A5 xb.b.length c5] 62)).heap[w5.heap.size]? = some (Obj.cells _ _ (0, 0)) := heap_alloc_new w5 (Obj.cells #[.int .i64 2, .string xb.p, .slice A5 xb.b.length c5] 62)
          have hbo := hbo.below ((Below.refl _ w5).alloc (Nat.le_refl _) (Obj.cells #[.int .i64 2, .string xb.p, .slice A5 xb.b.length c5] 62))
          have hM := hM.alloc (Obj.cells #[.int .i64 2, .string xb.p, .slice A5 xb.b.length c5] 62)
          refine hK.out _ _ (hS _ hM.bel) (fun hHeld => ?_)
          clear hK K
          try simp only [Act.put, List.getElem_toArray, List.getElem_cons_zero, List.getElem_cons_succ, List.setIfInBounds_toArray, List.set_cons_zero, List.set_cons_succ]
          refine wpAnyH_ready (rs := [12]) (by kernel_rfl) (by simp) ?_
          refine AllReadyH.cons rfl (fun K hK => ?_) AllReadyH.nil
          refine step_wanted rfl (wp_append_own _ (.tmp 59) (.tmp 70) 39 rfl (w2.heap.size + 1) 62 i0 (.agg #[.int .i64 0, .string ⟨#[]⟩, .slice none 0 0]) 3 48 Tryz.underlying39 hi hz0 hz1 hz2 rfl (by decide) (.slice Av nv cv) l0.length (dcells l0) rfl hM.del.own ⟨w5.heap.size, 0, none⟩ 1 1 (DX.cs ⟨2, xb.p, A5, c5, xb.b⟩) rfl rfl ?_ DX.one (by unfold maxLen; omega) (by omega) (by have := hM.box.lt; omega) ?_)
          · intro j u hu
            rw [Go.WideShapes.add_plain, Nat.zero_add]
            exact (cell_of_row _ _ j _ _ _ hN).trans (by simpa [DX.cs] using hu)
          intro v' W' hown hgrow _
          obtain ⟨g3, cap3, rfl⟩ := ownsRow_succ hown
          obtain ⟨m1, m2, m3, m4⟩ := hM.append (x := ⟨2, xb.p, A5, c5, xb.b⟩) hbo hown hgrow
          clear hown hgrow hM hN
          refine hK.out _ _ (hS _ m3) (fun hHeld => ?_)
          clear hK K
          try simp only [Act.put, List.getElem_toArray, List.getElem_cons_zero, List.getElem_cons_succ, List.setIfInBounds_toArray, List.set_cons_zero, List.set_cons_succ]
          refine wpAnyH_ready (rs := [13]) (by kernel_rfl) (by simp) ?_
          refine AllReadyH.cons rfl (fun K hK => ?_) AllReadyH.nil
          have c0 := m1.cell
          have f0 := m1.frozen
          go_simp
          clear c0 f0
          have hM := Mid.store m1 m2 m3 m4
          refine hK.out _ _ (hS _ hM.bel) (fun hHeld => ?_)
          clear hK K
          try simp only [Act.put, List.getElem_toArray, List.getElem_cons_zero, List.getElem_cons_succ, List.setIfInBounds_toArray, List.set_cons_zero, List.set_cons_succ]
          refine wpAnyH_done (by kernel_rfl) ?_ _
          simp only [NoOut]
          gi_wp2
          exact ⟨hM.oth.from _, KeepsB.of_below (below_back hB hM.bel hM.oth.size) hK0, _, _, hM.box, hM.del, by rw [List.map_append, HL.out, HT.out]; rfl, by rw [List.length_append]; show _ + 1 ≤ _; omega, hM.bel⟩
        refine AllReadyH.cons rfl (fun K hK => ?_) AllReadyH.nil
        go_simp
        refine (bclone_any xb.A xb.c xb.b _ (hbyt.below hM.bel) hbl).mono ?_
        rintro e w5 ⟨A5, c5, rfl, hbo, hb5⟩
        have hM := hM.below hb5
        clear hb5
        go_wp2_with fail
        refine hK.out _ _ (hS _ hM.bel) (fun hHeld => ?_)
        clear hK K
        try simp only [Act.put, List.getElem_toArray, List.getElem_cons_zero, List.getElem_cons_succ, List.setIfInBounds_toArray, List.set_cons_zero, List.set_cons_succ]
        refine wpAnyH_take (i := 10) (v := ?vq25_) rfl (by kernel_rfl) (by kernel_rfl) (by kernel_rfl) (fun _ _ _ h => h) (Or.inl ⟨by rfl, ?yq25_⟩) (by assumption) ?rq25_
        case yq25_ =>
          intro w hSw
          (try dsimp only at hSw)
          go_simp
          first | done | with_reducible rfl
        try simp only [Act.put, List.getElem_toArray, List.getElem_cons_zero, List.getElem_cons_succ, List.setIfInBounds_toArray, List.set_cons_zero, List.set_cons_succ]
        refine wpAnyH_ready (rs := [0, 11]) (by kernel_rfl) (by simp) ?_
        refine AllReadyH.cons rfl (fun K hK => ?_) ?_
        · have c0 := hM.box.cell
          go_simp
          clear c0
          refine hK.out _ _ (hS _ hM.bel) (fun hHeld => ?_)
          clear hK K
          try simp only [Act.put, List.getElem_toArray, List.getElem_cons_zero, List.getElem_cons_succ, List.setIfInBounds_toArray, List.set_cons_zero, List.set_cons_succ]
          refine wpAnyH_ready (rs := [11]) (by kernel_rfl) (by simp) ?_
          refine AllReadyH.cons rfl (fun K hK => ?_) AllReadyH.nil
          go_simp
          have hN : (w5.alloc (Obj.cells #[.int .i64 2, .string xb.p, .slice A5 xb.b.length c5] 62)).heap[w5.heap.size]? = some (Obj.cells _ _ (0, 0)) := heap_alloc_new w5 (Obj.cells #[.int .i64 2, .string xb.p, .slice A5 xb.b.length c5] 62)
          have hbo := hbo.below ((Below.refl _ w5).alloc (Nat.le_refl _) (Obj.cells #[.int .i64 2, .string xb.p, .slice A5 xb.b.length c5] 62))
          have hM := hM.alloc (Obj.cells #[.int .i64 2, .string xb.p, .slice A5 xb.b.length c5] 62)
          refine hK.out _ _ (hS _ hM.bel) (fun hHeld => ?_)
          clear hK K
          try simp only [Act.put, List.getElem_toArray, List.getElem_cons_zero, List.getElem_cons_succ, List.setIfInBounds_toArray, List.set_cons_zero, List.set_cons_succ]
          refine wpAnyH_ready (rs := [12]) (by kernel_rfl) (by simp) ?_
          refine AllReadyH.cons rfl (fun K hK => ?_) AllReadyH.nil
          refine step_wanted rfl (wp_append_own _ (.tmp 59) (.tmp 70) 39 rfl (w2.heap.size + 1) 62 i0 (.agg #[.int .i64 0, .string ⟨#[]⟩, .slice none 0 0]) 3 48 Tryz.underlying39 hi hz0 hz1 hz2 rfl (by decide) (.slice Av nv cv) l0.length (dcells l0) rfl hM.del.own ⟨w5.heap.size, 0, none⟩ 1 1 (DX.cs ⟨2, xb.p, A5, c5, xb.b⟩) rfl rfl ?_ DX.one (by unfold maxLen; omega) (by omega) (by have := hM.box.lt; omega) ?_)
          · intro j u hu
            rw [Go.WideShapes.add_plain, Nat.zero_add]
            exact (cell_of_row _ _ j _ _ _ hN).trans (by simpa [DX.cs] using hu)
          intro v' W' hown hgrow _
          obtain ⟨g3, cap3, rfl⟩ := ownsRow_succ hown
          obtain ⟨m1, m2, m3, m4⟩ := hM.append (x := ⟨2, xb.p, A5, c5, xb.b⟩) hbo hown hgrow
          clear hown hgrow hM hN
          refine hK.out _ _ (hS _ m3) (fun hHeld => ?_)
          clear hK K
          try simp only [Act.put, List.getElem_toArray, List.getElem_cons_zero, List.getElem_cons_succ, List.setIfInBounds_toArray, List.set_cons_zero, List.set_cons_succ]
          refine wpAnyH_ready (rs := [13]) (by kernel_rfl) (by simp) ?_
          refine AllReadyH.cons rfl (fun K hK => ?_) AllReadyH.nil
          have c0 := m1.cell
          have f0 := m1.frozen
          go_simp
          clear c0 f0
          have hM := Mid.store m1 m2 m3 m4
          refine hK.out _ _ (hS _ hM.bel) (fun hHeld => ?_)
          clear hK K
          try simp only [Act.put, List.getElem_toArray, List.getElem_cons_zero, List.getElem_cons_succ, List.setIfInBounds_toArray, List.set_cons_zero, List.set_cons_succ]
          refine wpAnyH_done (by kernel_rfl) ?_ _
          simp only [NoOut]
          gi_wp2
          exact ⟨hM.oth.from _, KeepsB.of_below (below_back hB hM.bel hM.oth.size) hK0, _, _, hM.box, hM.del, by rw [List.map_append, HL.out, HT.out]; rfl, by rw [List.length_append]; show _ + 1 ≤ _; omega, hM.bel⟩
        refine AllReadyH.cons rfl (fun K hK => ?_) AllReadyH.nil
        go_simp
        have hN : (w5.alloc (Obj.cells #[.int .i64 2, .string xb.p, .slice A5 xb.b.length c5] 62)).heap[w5.heap.size]? = some (Obj.cells _ _ (0, 0)) := heap_alloc_new w5 (Obj.cells #[.int .i64 2, .string xb.p, .slice A5 xb.b.length c5] 62)
        have hbo := hbo.below ((Below.refl _ w5).alloc (Nat.le_refl _) (Obj.cells #[.int .i64 2, .string xb.p, .slice A5 xb.b.length c5] 62))
        have hM := hM.alloc (Obj.cells #[.int .i64 2, .string xb.p, .slice A5 xb.b.length c5] 62)
        refine hK.out _ _ (hS _ hM.bel) (fun hHeld => ?_)
        clear hK K
        try simp only [Act.put, List.getElem_toArray, List.getElem_cons_zero, List.getElem_cons_succ, List.setIfInBounds_toArray, List.set_cons_zero, List.set_cons_succ]
        refine wpAnyH_ready (rs := [0]) (by kernel_rfl) (by simp) ?_
        refine AllReadyH.cons rfl (fun K hK => ?_) AllReadyH.nil
        have c0 := hM.box.cell
        go_simp
        clear c0
        refine hK.out _ _ (hS _ hM.bel) (fun hHeld => ?_)
        clear hK K
        try simp only [Act.put, List.getElem_toArray, List.getElem_cons_zero, List.getElem_cons_succ, List.setIfInBounds_toArray, List.set_cons_zero, List.set_cons_succ]
        refine wpAnyH_ready (rs := [12]) (by kernel_rfl) (by simp) ?_
        refine AllReadyH.cons rfl (fun K hK => ?_) AllReadyH.nil
        refine step_wanted rfl (wp_append_own _ (.tmp 59) (.tmp 70) 39 rfl (w2.heap.size + 1) 62 i0 (.agg #[.int .i64 0, .string ⟨#[]⟩, .slice none 0 0]) 3 48 Tryz.underlying39 hi hz0 hz1 hz2 rfl (by decide) (.slice Av nv cv) l0.length (dcells l0) rfl hM.del.own ⟨w5.heap.size, 0, none⟩ 1 1 (DX.cs ⟨2, xb.p, A5, c5, xb.b⟩) rfl rfl ?_ DX.one (by unfold maxLen; omega) (by omega) (by have := hM.box.lt; omega) ?_)
        · intro j u hu
          rw [Go.WideShapes.add_plain, Nat.zero_add]
          exact (cell_of_row _ _ j _ _ _ hN).trans (by simpa [DX.cs] using hu)
        intro v' W' hown hgrow _
        obtain ⟨g3, cap3, rfl⟩ := ownsRow_succ hown
        obtain ⟨m1, m2, m3, m4⟩ := hM.append (x := ⟨2, xb.p, A5, c5, xb.b⟩) hbo hown hgrow
        clear hown hgrow hM hN
        refine hK.out _ _ (hS _ m3) (fun hHeld => ?_)
        clear hK K
        try simp only [Act.put, List.getElem_toArray, List.getElem_cons_zero, List.getElem_cons_succ, List.setIfInBounds_toArray, List.set_cons_zero, List.set_cons_succ]
        refine wpAnyH_ready (rs := [13]) (by kernel_rfl) (by simp) ?_
        refine AllReadyH.cons rfl (fun K hK => ?_) AllReadyH.nil
        have c0 := m1.cell
        have f0 := m1.frozen
        go_simp
        clear c0 f0
        have hM := Mid.store m1 m2 m3 m4
        refine hK.out _ _ (hS _ hM.bel) (fun hHeld => ?_)
        clear hK K
        try simp only [Act.put, List.getElem_toArray, List.getElem_cons_zero, List.getElem_cons_succ, List.setIfInBounds_toArray, List.set_cons_zero, List.set_cons_succ]
        refine wpAnyH_done (by kernel_rfl) ?_ _
        simp only [NoOut]
        gi_wp2
        exact ⟨hM.oth.from _, KeepsB.of_below (below_back hB hM.bel hM.oth.size) hK0, _, _, hM.box, hM.del, by rw [List.map_append, HL.out, HT.out]; rfl, by rw [List.length_append]; show _ + 1 ≤ _; omega, hM.bel⟩
  case done =>
    rintro D W hD ⟨v, l, y0, hdel, hl0, hlk, hB⟩ hK'
    have c1 := y0.cell
    have HL := Lib.hid hl0; clear hl0
    gi_wp2
    refine ⟨by simp, .inl ⟨_, _, rfl, run_takeDeferred hK', ?_⟩⟩
    refine ⟨v, by simp [results, Tryz.f30, go_sem], v, l, rfl, ?_, ?_, ?_⟩
    · exact (hdel.keepNC (grownBy_putObj' _ D _) (fun r e => by cases e; exact ⟨_, hK', rfl⟩)).lower (by have := HB2.out.size; omega)
    · rw [HL.out, toldP_all]; unfold diffB; rw [RA.out, RB.out]; rfl
    · exact HB2.out.trans ((hB.trans (belowK_b (w := w2) (Nat.le_refl _) _ D _ _ (by omega) hK' rfl rfl)).mono HB2.out.size)
  case stop => exact fun _ _ _ _ _ _ h => h.elim
end Go.Proofs.YtffhfllikamccaaGreatDoor
namespace Go.Proofs.YtffhfllikamccaaGreatDoor
open Go Go.RowKit Go.Shelf Go.Proofs

set_option maxRecDepth 100000 in
set_option maxHeartbeats 2000000 in
theorem diff_wrong (a b : List FX) (A B : Option Addr) (c d : Nat) (w0 : World) (ha : TreeAt w0 A c a) (hb : TreeAt w0 B d b) (hsa : ∀ x ∈ a, x.p.size ≤ 1000000) (hsb : ∀ x ∈ b, x.p.size ≤ 1000000) (hm : MaxOk w0)
    (hr : (rightT (flsX a) && rightT (flsX b)) = false) :
    Calls Tryz.prog 30 #[.slice A a.length c, .slice B b.length d] w0 (DiffPost a b w0) := by
  have hd : diffB a b = [] := by unfold diffB; rw [hr]; rfl
  have HD := Lib.hid hd; clear hd
  have HSA := Lib.hid hsa; clear hsa
  have HSB := Lib.hid hsb; clear hsb
  have HM := Lib.hid hm; clear hm
  cases hra : rightT (flsX a) with
  | false =>
    have RA := Lib.hid hra; clear hra hr
    go_enter Tryz.func30, Tryz.ntmps30
    go_wp2_with fail
    refine (tright_any a A c _ ha HSA.out HM.out).mono ?_
    rintro e w1 ⟨rfl, hb1⟩
    rw [RA.out]
    have HB1 := Lib.hid hb1; clear hb1
    go_wp2_with fail
    go_ret
    exact ⟨_, [], rfl, DeltasAt.nil _ _, HD.out.symm, HB1.out⟩
  | true =>
    rw [hra, Bool.true_and] at hr
    have RA := Lib.hid hra; clear hra
    have RB := Lib.hid hr; clear hr
    go_enter Tryz.func30, Tryz.ntmps30
    go_wp2_with fail
    refine (tright_any a A c _ ha HSA.out HM.out).mono ?_
    rintro e w1 ⟨rfl, hb1⟩
    rw [RA.out]
    have HB1 := Lib.hid hb1; clear hb1
    go_wp2_with fail
    refine (tright_any b B d _ (hb.below HB1.out) HSB.out (HM.out.below HB1.out)).mono ?_
    rintro e w2 ⟨rfl, hb2⟩
    rw [RB.out]
    have HB2 := Lib.hid (HB1.out.trans (hb2.mono HB1.out.size)); clear hb2 HB1
    go_wp2_with fail
    go_ret
    exact ⟨_, [], rfl, DeltasAt.nil _ _, HD.out.symm, HB2.out⟩
theorem diff_any (a b : List FX) (A B : Option Addr) (c d : Nat) (w0 : World) (ha : TreeAt w0 A c a) (hb : TreeAt w0 B d b) (hsa : ∀ x ∈ a, x.p.size ≤ 1000000) (hsb : ∀ x ∈ b, x.p.size ≤ 1000000) (hm : MaxOk w0) :
    Calls Tryz.prog 30 #[.slice A a.length c, .slice B b.length d] w0 (DiffPost a b w0) := by
  cases h : (rightT (flsX a) && rightT (flsX b)) with
  | false => exact diff_wrong a b A B c d w0 ha hb hsa hsb hm h
  | true =>
    rw [Bool.and_eq_true] at h
    exact diff_right a b A B c d w0 ha hb hsa hsb hm h.1 h.2
end Go.Proofs.YtffhfllikamccaaGreatDoor
