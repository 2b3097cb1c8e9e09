/-
  frame.All.
-/
import Derived.Test.YthmhofmkiliihaaFrNext
namespace Go.Proofs.Ythmhofmkiliihaa
open Go Go.RowKit Go.Shelf Go.Proofs
attribute [local go_sem] Oper.semAt_some

theorem ownRow_cells {w : World} {base e size n : Nat} {v : Value} {xs : List Value} {j : Nat} {o : Obj} (h : w.ownsRow base e size v n xs) (e1 : v.ownBlock = some j) (ho : w.heap[j]? = some o) : o.isCells = true := by
  rcases h.2 with ⟨rfl, _⟩ | ⟨g, cap, cur, rfl, _, hg, _⟩
  · simp [Value.ownBlock] at e1
  · simp [Value.ownBlock] at e1
    subst e1
    rw [hg] at ho; cases ho; rfl
theorem lenF_snoc (l : List Bs) (x : Bs) : lenF (l ++ [x]) = lenF l + (8 + x.length) := by
  unfold lenF
  rw [join_append, List.length_append]
  have : joinF [x] = encF x := by unfold joinF; simp
  rw [this, encF_length]
theorem lenF_take (l : List Bs) (k : Nat) : lenF (l.take k) ≤ lenF l := by
  conv => rhs; rw [← List.take_append_drop k l]
  unfold lenF
  rw [join_append, List.length_append]; omega
theorem lenF_count (l : List Bs) : 8 * l.length ≤ lenF l := by
  induction l with
  | nil => simp
  | cons x l ih => rw [lenF_cons, List.length_cons]; omega
theorem RowsB.box {base : Nat} {W : World} {v : Value} {l : List BX} {B : Nat} {t : TypeId} {u : Value} (h : RowsB base W v l) (hx : Boxed W B t u) (h1 : t ≠ 22) (h2 : t ≠ 5) (z : Value) : RowsB base (W.setCell ⟨B, 0, none⟩ z) v l :=
  ⟨World.ownsRow.kept h.own (grownBy_setCell' W B z) (.inr (fun e => hx.not_row h1 h.own e.symm)), fun y hy => ⟨(h.bod y hy).1.box hx h2 z, (h.bod y hy).2⟩⟩
def AllI (b : Bs) (w : World) (k : Nat) (W : World) : Prop := ∃ v rows, Boxed W w.heap.size 26 v ∧ RowsB w.heap.size W v rows ∧ Hid (rows.map BX.b = (allB b).take k) ∧ Boxed W (w.heap.size + 1) 3 (.int .i64 (lenF ((allB b).take k) : Nat)) ∧ Below w.heap.size w W
theorem allI_own (b : Bs) (w : World) (B : Nat) (hB : w.heap.size + 1 < B) : OwnTo NoB B (AllI b w) := by
  rintro k W W' row ⟨v, rows, h1, h2, h3, h4, h5⟩ hg hr
  have hr' : ∀ r, row = some r → B ≤ r ∧ ∃ o : Obj, W.heap[r]? = some o ∧ o.isCells = false := fun r e => (hr r e).resolve_left (fun h => h)
  exact ⟨v, rows, h1.kept hg (fun e => by have := (hr' _ e.symm).1; omega), h2.keepNC hg (fun r e => (hr' r e).2), h3, h4.kept hg (fun e => by have := (hr' _ e.symm).1; omega), h5.grown hg h5.size (fun r e => by have := (hr' r e).1; omega)⟩
/-- What All answers. -/
def AllPost (b : Bs) (w : World) (e : Ending) (w' : World) : Prop := ∃ v rows, e = .returned (.tuple #[v, .int .i64 (lenF (allB b) : Nat)]) ∧ RowsB w.heap.size w' v rows ∧ rows.map BX.b = allB b ∧ Below w.heap.size w w'

set_option maxRecDepth 100000 in
set_option maxHeartbeats 8000000 in
theorem all_any (A : Option Addr) (c : Nat) (b : Bs) (w : World) (hs : SlAt w A c b) (hl : b.length ≤ 100000) :
    Calls Try.prog 11 #[.slice A b.length c] w (AllPost b w) := by
  refine (callsIn_wide (n := 3)).1 ?_
  generalize 3 = n
  refine callsIn_of_wp_marks Try.func11 rfl trivial ?_ rfl
  simp only [Try.ntmps11, List.size_toArray, List.length_cons, List.length_nil, Nat.reduceAdd, Nat.reduceSub, Array.replicate_succ, Array.replicate_zero, List.push_toArray, List.append_toArray, List.nil_append, List.cons_append]
  gi_wp2_with (refine wide_call (frames_any A _ _ _) ?_; rintro e w' ⟨rfl, rfl⟩)
  obtain ⟨W0, hW0⟩ : ∃ W0, ((w.alloc (.cells #[.slice none 0 0] 26)).alloc (.cells #[.int .i64 0] 3)).alloc (.cells #[.slice A b.length c] 22) = W0 := ⟨_, rfl⟩
  have hs0 : W0.heap.size = w.heap.size + 3 := by rw [← hW0]; simp
  have x0 : Boxed W0 w.heap.size 26 (.slice none 0 0) := by rw [← hW0]; exact ((Boxed.new w _ _).alloc _).alloc _
  have x1 : Boxed W0 (w.heap.size + 1) 3 (.int .i64 0) := by
    rw [← hW0]; have := Boxed.new (w.alloc (.cells #[.slice none 0 0] 26)) 3 (.int .i64 0); rw [World.size_alloc] at this; exact this.alloc _
  have x2 : Boxed W0 (w.heap.size + 2) 22 (.slice A b.length c) := by
    rw [← hW0]; have := Boxed.new ((w.alloc (.cells #[.slice none 0 0] 26)).alloc (.cells #[.int .i64 0] 3)) 22 (.slice A b.length c); simp only [World.size_alloc] at this; exact this
  have hB0 : Below w.heap.size w W0 := by
    rw [← hW0]; exact (((Below.refl _ w).alloc (Nat.le_refl _) _).alloc (by simp) _).alloc (by simp; omega) _
  rw [hW0]
  clear hW0
  have hK := keepB_low hs
  have hxl : (frX b.length A c b).map BX.b = allB b := frX_b _ _ _ _
  have hcount : 8 * (allB b).length ≤ b.length := Nat.le_trans (lenF_count _) (lenF_le b)
  refine wpIn_rangeList rfl (fun h => absurd h (by decide)) (gf := 27) (lb := #[.pointer (some ⟨w.heap.size + 2, 0, none⟩)]) rfl trivial (enters_of Try.func27 (by kernel_rfl) rfl)
    (frames_list _ (w.heap.size + 2) A c b W0 x2 (hs.below hB0) hl) KeepsB.trans (fr_keepsB (fun k h => by have := hK k h; omega)) (fun r h => h.elim) (Below.refl _ _) (fun _ => rfl)
    (AllI b w) (fun _ _ _ => False) (allI_own b w _ (by omega)) (fun _ _ _ _ _ h _ _ => h) ⟨_, [], x0, RowsB.nil _ _, rfl, x1, hB0⟩
    (fun x a' _ => a' = { tmps := #[.slice A b.length c, undef, .slice none 0 0, .int .i64 0, .pointer (some ⟨w.heap.size, 0, none⟩), .pointer (some ⟨w.heap.size + 1, 0, none⟩), .slice x.A x.b.length x.c, .int .i64 ((8 + x.b.length : Nat) : Int), .slice A b.length c, .func (.func 27) #[] #[.pointer (some ⟨w.heap.size + 2, 0, none⟩)], .slice x.A x.b.length x.c, .int .i64 ((8 + x.b.length : Nat) : Int), undef, undef, undef, undef, undef, undef, undef, undef, undef, undef], defers := [] }) (fun _ _ _ _ _ _ hs _ _ => hs) ?assign ?body ?done ?stop
  case assign =>
    intro l k x W K hi hK2
    simp only [encF2]
    gi_wp2
    exact hK2 _ _ (KeepsFrom.refl _ _) (KeepsB.refl _ _) hi rfl
  case body =>
    have mixed : Try.prog.follows .mixedOrders = true := by kernel_rfl
    rintro l k x a' W hl2 _ ⟨v, rows, y0, hR, hval, y1, hB⟩ rfl hx
    have hmem := frX_mem _ _ _ _ (hs.bytes.below hB) hs.cap hs.capm x (List.mem_of_getElem? hx)
    have hxk : (allB b)[k]? = some x.b := by rw [← hxl, List.getElem?_map, hx]; rfl
    have htk : (allB b).take (k + 1) = (allB b).take k ++ [x.b] := by rw [List.take_add_one, hxk]; rfl
    have hlr : rows.length ≤ 100000 := by
      have := congrArg List.length hval.out
      rw [List.length_map, List.length_take] at this
      omega
    have hlb : x.b.length ≤ 100000 := by omega
    have hlt : lenF ((allB b).take k) + (8 + x.b.length) ≤ 100000 := by
      rw [← lenF_snoc, ← htk]
      have := lenF_take (allB b) (k + 1)
      have := lenF_le b
      omega
    have hln : lenF ((allB b).take (k + 1)) = lenF ((allB b).take k) + (8 + x.b.length) := by rw [htk, lenF_snoc]
    have HLN := Lib.hid hln
    have HTK := Lib.hid htk
    have HC := Lib.hid (frclone_any x.A x.c x.b W.drew (hmem.1.below (Below.refl _ W).drew) (by omega))
    have HR := Lib.hid hR
    have HVAL := hval
    clear hmem hx hxk htk hln hR hxl
    have hHeld : W.drew.cell? ⟨w.heap.size, 0, none⟩ = some v := y0.cell
    gi_wp2
    refine wpIn_round_last (fun w' => w'.cell? ⟨w.heap.size, 0, none⟩ = some v) 5 mixed (by kernel_rfl) ?_
    refine wpAnyL_take (i := 0) (v := ?vp0) rfl (by kernel_rfl) (by kernel_rfl) (by kernel_rfl) (by kernel_rfl) (by kernel_rfl) (fun _ _ _ h => h) hHeld (Or.inl ⟨by rfl, ?yp0⟩) ?rp0
    case yp0 =>
      intro w hSw
      (try dsimp only at hSw)
      go_simp
      first | done | with_reducible rfl
    try simp only [Act.put, List.getElem_toArray, List.getElem_cons_zero, List.setIfInBounds_toArray, List.set_cons_zero, List.set_cons_succ]
    refine wpAnyL_take (i := 1) (v := ?vp1) rfl (by kernel_rfl) (by kernel_rfl) (by kernel_rfl) (by kernel_rfl) (by kernel_rfl) (fun _ _ _ h => h) hHeld (Or.inl ⟨by rfl, ?yp1⟩) ?rp1
    case yp1 =>
      intro w hSw
      (try dsimp only at hSw)
      go_simp
      first | done | with_reducible rfl
    try simp only [Act.put, List.getElem_toArray, List.getElem_cons_zero, List.getElem_cons_succ, List.setIfInBounds_toArray, List.set_cons_zero, List.set_cons_succ]
    refine wpAnyL_one (i := 2) (by kernel_rfl) rfl rfl (fun K hK => ?_)
    go_simp
    refine HC.out.mono ?_
    rintro e w1 ⟨A', c', rfl, ho, hb1⟩
    go_wp2_with fail
    have hb1 : Below W.heap.size W w1 := ((Below.refl _ W).drew).trans hb1
    have y01 : Boxed w1 w.heap.size 26 v := (hb1.block _ y0.lt).trans y0
    have hHeld := y01.cell
    refine hK.out _ _ (fun _ => hHeld) ?_
    clear hK K
    try simp only [Act.put, List.getElem_toArray, List.getElem_cons_zero, List.getElem_cons_succ, List.setIfInBounds_toArray, List.set_cons_zero, List.set_cons_succ]
    refine wpAnyL_one (i := 3) (by kernel_rfl) rfl rfl (fun K hK => ?_)
    go_simp
    have hHeld : (w1.alloc (.cells #[.slice A' x.b.length c'] 22)).cell? ⟨w.heap.size, 0, none⟩ = some v := (y01.alloc _).cell
    refine hK.out _ _ (fun _ => hHeld) ?_
    clear hK K
    try simp only [Act.put, List.getElem_toArray, List.getElem_cons_zero, List.getElem_cons_succ, List.setIfInBounds_toArray, List.set_cons_zero, List.set_cons_succ]
    refine wpAnyL_one (i := 4) (by kernel_rfl) rfl rfl (fun K hK => ?_)
    have hbX : Below W.heap.size W (w1.alloc (.cells #[.slice A' x.b.length c'] 22)) := hb1.alloc hb1.size _
    have hRX := HR.out.below hbX
    have y0X : Boxed (w1.alloc (.cells #[.slice A' x.b.length c'] 22)) w.heap.size 26 v := (hbX.block _ y0.lt).trans y0
    have y1X : Boxed (w1.alloc (.cells #[.slice A' x.b.length c'] 22)) (w.heap.size + 1) 3 (.int .i64 (lenF ((allB b).take k) : Nat)) := (hbX.block _ y1.lt).trans y1
    have hoX : OwnS (w1.alloc (.cells #[.slice A' x.b.length c'] 22)) A' c' x.b := ho.below ((Below.refl _ w1).alloc (Nat.le_refl _) _)
    have hcX : (w1.alloc (.cells #[.slice A' x.b.length c'] 22)).cell? ⟨w1.heap.size, 0, none⟩ = some (BX.v ⟨A', c', x.b⟩) := (Boxed.new w1 22 (.slice A' x.b.length c')).cell
    have hbW := hB.trans (hbX.mono hB.size)
    have hsX := hbX.size
    generalize (w1.alloc (.cells #[.slice A' x.b.length c'] 22)) = w2 at *
    refine wp_appR (.tmp 12) (.tmp 15) rfl rfl hRX ⟨A', c', x.b⟩ hoX (by show x.b.length ≤ 1000000; omega) w1.heap.size rfl hcX (by omega) hbW.size ?_
    intro v3 w3 hR3 hg3
    obtain ⟨A3, c3, rfl, hsl3⟩ := hR3.slice
    clear hsl3
    have y03 : Boxed w3 w.heap.size 26 v := y0X.kept hg3 (y0X.not_row (by decide) hRX.own)
    have y13 : Boxed w3 (w.heap.size + 1) 3 (.int .i64 (lenF ((allB b).take k) : Nat)) := y1X.kept hg3 (y1X.not_row (by decide) hRX.own)
    have hb3 : Below w.heap.size w w3 := hbW.grown hg3 hbW.size (fun r e => (World.ownsRow.lt hRX.own r e).1)
    have hs3 := hg3.size
    have hk3 : KeepsOthers W w3 := KeepsOthers.trans ⟨hbX.size, fun j o hj _ => (hbX.block j (Array.getElem?_eq_some_iff.1 hj).1).trans hj⟩ (KeepsOthers.of_grownBy hg3 (fun j o e hj => ownRow_cells hRX.own e hj))
    have hf3 := y03.frozen
    have hHeld := y03.cell
    clear hRX y0X y1X hoX hcX hbX hg3
    refine hK.out _ _ (fun _ => hHeld) ?_
    clear hK K
    try simp only [Act.put, List.getElem_toArray, List.getElem_cons_zero, List.getElem_cons_succ, List.setIfInBounds_toArray, List.set_cons_zero, List.set_cons_succ]
    refine wpAnyL_one (i := 5) (by kernel_rfl) rfl rfl (fun K hK => ?_)
    go_simp
    refine hK.out _ _ (fun h => absurd rfl h) ?_
    clear hK K
    try simp only [Act.put, List.getElem_toArray, List.getElem_cons_zero, List.getElem_cons_succ, List.setIfInBounds_toArray, List.set_cons_zero, List.set_cons_succ]
    refine wpAnyL_done (by kernel_rfl) ?_ _
    simp only [NoOut]
    have hR4 := hR3.box y03 (by decide) (by decide) (.slice A3 (rows.length + 1) c3)
    have y04 := y03.set (.slice A3 (rows.length + 1) c3)
    have y14 := fr_other y13 ⟨w.heap.size, 0, none⟩ (by simp) (.slice A3 (rows.length + 1) c3)
    have hb4 := hb3.setCell (p := ⟨w.heap.size, 0, none⟩) (Nat.le_refl _) (.slice A3 (rows.length + 1) c3)
    have hk4 := hk3.trans (KeepsOthers.setCell w3 ⟨w.heap.size, 0, none⟩ (.slice A3 (rows.length + 1) c3))
    have hs4 : w3.heap.size ≤ (w3.setCell ⟨w.heap.size, 0, none⟩ (.slice A3 (rows.length + 1) c3)).heap.size := by simp
    generalize (w3.setCell ⟨w.heap.size, 0, none⟩ (.slice A3 (rows.length + 1) c3)) = w4 at *
    have c4 := y14.cell
    have f4 := y14.frozen
    rw [List.length_append] at hR4
    obtain ⟨T, hT⟩ : ∃ T, lenF ((allB b).take k) = T := ⟨_, rfl⟩
    rw [hT] at c4 hlt HLN
    have wT : IntKind.i64.wrap ((T : Int) + (8 + (x.b.length : Int))) = (T : Int) + (8 + (x.b.length : Int)) := IntWalk.i64_in _ (by omega)
    clear hHeld hf3 y03 y13 hb3 hk3 hR3 hlr hlb hlt
    gi_wp2
    have hR5 := hR4.box y14 (by decide) (by decide) (.int .i64 ((T : Int) + (8 + (x.b.length : Int))))
    have y05 := fr_other y04 ⟨w.heap.size + 1, 0, none⟩ (by simp) (.int .i64 ((T : Int) + (8 + (x.b.length : Int))))
    have hb5 := hb4.setCell (p := ⟨w.heap.size + 1, 0, none⟩) (by simp) (.int .i64 ((T : Int) + (8 + (x.b.length : Int))))
    refine ⟨(hk4.trans (KeepsOthers.setCell _ _ _)).from _, KeepsB.of_below (fr_back hB hb5 (by have := (hk4.trans (KeepsOthers.setCell w4 ⟨w.heap.size + 1, 0, none⟩ (.int .i64 ((T : Int) + (8 + (x.b.length : Int)))))).size; exact this)) hK, _, _, y05, hR5, ?_, ?_, hb5⟩
    · show _ = _
      rw [List.map_append, HVAL.out, HTK.out]; rfl
    · rw [HLN.out]
      exact y14.set _
  case done =>
    rintro D W hD ⟨v, rows, y0, hR, hval, y1, hB⟩ hK'
    have hfl : (frX b.length A c b).length = (allB b).length := by rw [← hxl, List.length_map]
    rw [hfl, List.take_length] at hval y1
    have c0 := y0.cell
    have c1 := y1.cell
    gi_wp2
    gi_region
    all_goals (try gi_wp2)
    have hKD : W.drew.heap[D]? = some (.deferred (some [])) := hK'
    refine ⟨by simp, .inl ⟨_, _, rfl, run_takeDeferred hKD, ?_⟩⟩
    refine ⟨.tuple #[v, .int .i64 (lenF (allB b) : Nat)], by simp [results, Try.f11, go_sem], v, rows, rfl, ?_, hval.out, ?_⟩
    · exact (hR.below (Below.refl _ W).drew).keepNC (grownBy_putObj' _ D _) (fun r e => by cases e; exact ⟨_, hKD, rfl⟩)
    · exact hB.drew.trans (belowK_b (w := w) (Nat.le_refl _) _ D _ _ (by omega) hKD rfl rfl)
  case stop => exact fun _ _ _ _ _ _ h => h.elim
end Go.Proofs.Ythmhofmkiliihaa
