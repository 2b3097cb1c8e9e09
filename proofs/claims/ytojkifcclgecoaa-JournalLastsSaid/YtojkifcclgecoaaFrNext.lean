/-
  frame.Next.
-/
import Derived.Test.YtojkifcclgecoaaFrRows
namespace Go.Proofs.Ytojkifcclgecoaa
open Go Go.RowKit Go.Shelf Go.Proofs
attribute [local go_sem] Oper.semAt_some

theorem fr_keepsB {K : Nat → Prop} {w : World} (hK : ∀ k, K k → k < w.heap.size) (W : World) (l : Nat) (o o' : Obj) (hl : w.heap.size ≤ l) (_ : W.heap[l]? = some o) (_ : o.isCells = false) (_ : o.isWalk = false) : KeepsB K W (W.putObj l o') :=
  .of_grownBy (grownBy_putObj' W l o') (fun _ e => by cases e; exact fun h => by have := hK l h; omega)
theorem keepB_low {w : World} {A : Option Addr} {c : Nat} {b : Bs} (h : SlAt w A c b) : ∀ k, KeepB A b k → k < w.heap.size := fun k hk => inB_low h hk.1 k hk.2
theorem fr_back {B : Nat} {w W W' : World} (h1 : Below B w W) (h2 : Below B w W') : W.heap.size ≤ W'.heap.size → Below B W W' := fun hs =>
  ⟨h2.os.trans h1.os.symm, h2.tape.trans h1.tape.symm, h2.output.trans h1.output.symm, hs, fun k hk => (h2.block k hk).trans (h1.block k hk).symm⟩

def NextI (w : World) (k : Nat) (W : World) : Prop := k = 0 ∧ Boxed W w.heap.size 29 (.slice none 0 0) ∧ Boxed W (w.heap.size + 1) 3 (.int .i64 0) ∧ Below w.heap.size w W
def NextX (b : Bs) (w : World) (c : Code) (_ : Nat) (W : World) : Prop := c = .ret ∧ ∃ A' c' x, nextF b = some x ∧ NewA w.heap.size A' ∧ Boxed W w.heap.size 29 (.slice A' x.length c') ∧ OwnS W A' c' x ∧ Boxed W (w.heap.size + 1) 3 (.int .i64 ((8 + x.length : Nat) : Int)) ∧ Below w.heap.size w W
theorem OwnS.keepNC {W W' : World} {A : Option Addr} {c : Nat} {b : Bs} {row : Option Nat} (h : OwnS W A c b) (hg : W.grownBy W' row) (hr : ∀ r, row = some r → ∃ o : Obj, W.heap[r]? = some o ∧ o.isCells = false) : OwnS W' A c b :=
  h.keep fun g cur hh => hg.block g (Array.getElem?_eq_some_iff.1 hh).1 (fun e => by
    obtain ⟨o, ho, hc⟩ := hr g e.symm
    rw [hh] at ho; cases ho; cases hc)
theorem OwnS.box {W : World} {A : Option Addr} {c : Nat} {b : Bs} {B : Nat} {t : TypeId} {u : Value} (h : OwnS W A c b) (hx : Boxed W B t u) (ht : t ≠ 5) (v : Value) : OwnS (W.setCell ⟨B, 0, Option.none⟩ v) A c b :=
  h.keep fun g cur hh => heap_setCell_other W _ g _ (fun e => by
    have e : g = B := e
    subst e
    have := hh.symm.trans hx
    simp at this
    exact ht this.2.symm)
theorem nextI_own (w : World) (B : Nat) (hB : w.heap.size + 1 < B) : OwnTo NoB B (NextI w) := by
  rintro k W W' row ⟨h0, h1, h2, h3⟩ hg hr
  have hr' : ∀ r, row = some r → B ≤ r := fun r e => ((hr r e).resolve_left (fun h => h)).1
  exact ⟨h0, h1.kept hg (fun e => by have := hr' _ e.symm; omega), h2.kept hg (fun e => by have := hr' _ e.symm; omega), h3.grown hg h3.size (fun r e => by have := hr' r e; omega)⟩
theorem nextX_own (b : Bs) (w : World) (B : Nat) (hB : w.heap.size + 1 < B) (c : Code) : OwnTo NoB B (NextX b w c) := by
  rintro k W W' row ⟨h0, A', c', x, hx, hna, h1, h2, h3, h4⟩ hg hr
  have hr' : ∀ r, row = some r → B ≤ r ∧ ∃ o : Obj, W.heap[r]? = some o ∧ o.isCells = false := fun r e => (hr r e).resolve_left (fun h => h)
  exact ⟨h0, A', c', x, hx, hna, h1.kept hg (fun e => by have := (hr' _ e.symm).1; omega), h2.keepNC hg (fun r e => (hr' r e).2), h3.kept hg (fun e => by have := (hr' _ e.symm).1; omega), h4.grown hg h4.size (fun r e => by have := (hr' r e).1; omega)⟩

/-- What Next answers: the bytes, the length. -/
def NextPost (b : Bs) (w : World) (e : Ending) (w' : World) : Prop := ∃ (A' : Option Addr) (c' : Nat) (x : Bs) (n : Nat), e = .returned (.tuple #[.slice A' x.length c', .int .i64 n]) ∧ OwnS w' A' c' x ∧ ((nextF b = some x ∧ n = 8 + x.length) ∨ (nextF b = none ∧ x = [] ∧ n = 0)) ∧ Below w.heap.size w w'
/-- The same; the bytes are new. -/
def NextPost2 (b : Bs) (w : World) (e : Ending) (w' : World) : Prop := ∃ (A' : Option Addr) (c' : Nat) (x : Bs) (n : Nat), e = .returned (.tuple #[.slice A' x.length c', .int .i64 n]) ∧ NewA w.heap.size A' ∧ OwnS w' A' c' x ∧ ((nextF b = some x ∧ n = 8 + x.length) ∨ (nextF b = none ∧ x = [] ∧ n = 0)) ∧ Below w.heap.size w w'

set_option maxRecDepth 100000 in
set_option maxHeartbeats 8000000 in
theorem next_at (A : Option Addr) (c : Nat) (b : Bs) (w : World) (hs : SlAt w A c b) (hl : b.length ≤ 100000) :
    Calls Try.prog 81 #[.slice A b.length c] w (NextPost2 b w) := by
  refine (callsIn_wide (n := 3)).1 ?_
  generalize 3 = n
  refine callsIn_of_wp_marks Try.func81 rfl trivial ?_ rfl
  simp only [Try.ntmps81, List.size_toArray, List.length_cons, List.length_nil, Nat.reduceAdd, Nat.reduceSub, Array.replicate_succ, Array.replicate_zero, List.push_toArray, List.append_toArray, List.nil_append, List.cons_append]
  gi_wp2_with (refine wide_call (frames_any A _ _ _) ?_; rintro e w' ⟨rfl, rfl⟩)
  obtain ⟨W0, hW0⟩ : ∃ W0, ((w.alloc (.cells #[.slice none 0 0] 29)).alloc (.cells #[.int .i64 0] 3)).alloc (.cells #[.slice A b.length c] 29) = W0 := ⟨_, rfl⟩
  have hs0 : W0.heap.size = w.heap.size + 3 := by rw [← hW0]; simp
  have x0 : Boxed W0 w.heap.size 29 (.slice none 0 0) := by rw [← hW0]; exact ((Boxed.new w _ _).alloc _).alloc _
  have x1 : Boxed W0 (w.heap.size + 1) 3 (.int .i64 0) := by
    rw [← hW0]; have := Boxed.new (w.alloc (.cells #[.slice none 0 0] 29)) 3 (.int .i64 0); rw [World.size_alloc] at this; exact this.alloc _
  have x2 : Boxed W0 (w.heap.size + 2) 29 (.slice A b.length c) := by
    rw [← hW0]; have := Boxed.new ((w.alloc (.cells #[.slice none 0 0] 29)).alloc (.cells #[.int .i64 0] 3)) 29 (.slice A b.length c); simp only [World.size_alloc] at this; exact this
  have hB0 : Below w.heap.size w W0 := by
    rw [← hW0]; exact (((Below.refl _ w).alloc (Nat.le_refl _) _).alloc (by simp) _).alloc (by simp; omega) _
  rw [hW0]
  clear hW0
  have hK := keepB_low hs
  refine wpIn_rangeList rfl (fun h => absurd h (by decide)) (gf := 89) (lb := #[.pointer (some ⟨w.heap.size + 2, 0, none⟩)]) rfl trivial (enters_of Try.func89 (by kernel_rfl) rfl)
    (frames_list _ (w.heap.size + 2) A c b W0 x2 (hs.below hB0) hl) KeepsB.trans (fr_keepsB (fun k h => by have := hK k h; omega)) (fun r h => h.elim) (Below.refl _ _) (fun _ => rfl)
    (NextI w) (NextX b w) (nextI_own w _ (by omega)) (nextX_own b w _ (by omega)) ⟨rfl, x0, x1, hB0⟩
    (fun x a' _ => a' = { tmps := #[.slice A b.length c, undef, .pointer (some ⟨w.heap.size, 0, none⟩), .pointer (some ⟨w.heap.size + 1, 0, none⟩), .slice x.A x.b.length x.c, .int .i64 ((8 + x.b.length : Nat) : Int), .slice A b.length c, .func (.func 89) #[] #[.pointer (some ⟨w.heap.size + 2, 0, none⟩)], .slice x.A x.b.length x.c, .int .i64 ((8 + x.b.length : Nat) : Int), undef, undef, undef], defers := [] }) (fun _ _ _ _ _ _ hs _ _ => hs) ?assign ?body ?done ?stop
  case assign =>
    intro l k x W K hi hK2
    simp only [encF2]
    gi_wp2
    exact hK2 _ _ (KeepsFrom.refl _ _) (KeepsB.refl _ _) hi rfl
  case body =>
    rintro l k x a' W hl2 _ ⟨rfl, y0, y1, hB⟩ rfl hx
    have hmem := frX_mem _ _ _ _ (hs.bytes.below hB) hs.cap hs.capm x (List.mem_of_getElem? hx)
    have hn : nextF b = some x.b := by
      obtain ⟨m, hm⟩ : ∃ m, b.length = m + 1 := ⟨b.length - 1, by have := hmem.2; omega⟩
      rw [hm] at hx
      cases hn : nextF b with
      | none => rw [frX_none hn] at hx; cases hx
      | some y => rw [frX_some hn] at hx; simp only [List.getElem?_cons_zero, Option.some.injEq] at hx; rw [← hx]
    have HN := Lib.hid hn
    have HC := Lib.hid (frclone_at x.A x.c x.b W hmem.1 (by omega))
    have c0 := y0.cell
    have f0 := y0.frozen
    have f1 := y1.frozen
    have c1 := y1.cell
    clear hn hmem hx
    gi_wp2
    refine wide_call_in HC.out ?_
    clear HC c0 c1 f0 f1
    rintro e w1 ⟨A', c', rfl, ho, hna, hb1⟩
    have z0 : Boxed w1 w.heap.size 29 (.slice none 0 0) := (hb1.block _ y0.lt).trans y0
    have z1 : Boxed w1 (w.heap.size + 1) 3 (.int .i64 0) := (hb1.block _ y1.lt).trans y1
    have c0 := z0.cell
    have f0 := z0.frozen
    have z1b := fr_other z1 ⟨w.heap.size, 0, none⟩ (by simp) (.slice A' x.b.length c')
    have c1 := z1b.cell
    have f1 := z1.frozen
    gi_wp2
    have ho1 := OwnS.box (t := 29) ho z0 (by decide) (.slice A' x.b.length c')
    have ho2 := OwnS.box (t := 3) ho1 z1b (by decide) (.int .i64 (8 + (x.b.length : Int)))
    have hb2 := hB.trans (hb1.mono hB.size)
    have hbs := (hb2.setCell (p := ⟨w.heap.size, 0, none⟩) (Nat.le_refl _) (.slice A' x.b.length c')).setCell (p := ⟨w.heap.size + 1, 0, none⟩) (by simp) (.int .i64 (8 + (x.b.length : Int)))
    have hko : KeepsOthers W w1 := ⟨hb1.size, fun k o hk ho => (hb1.block k (Array.getElem?_eq_some_iff.1 hk).1).trans hk⟩
    refine ⟨((hko.trans (KeepsOthers.setCell _ _ _)).trans (KeepsOthers.setCell _ _ _)).from _, rfl, A', c', x.b, HN.out, hna.mono hB.size, ?_, ho2, ?_, hbs⟩
    · exact fr_other (z0.set _) _ (by simp) _
    · rw [Int.natCast_add]; exact z1b.set _
  case done =>
    rintro D W hD ⟨h0, y0, y1, hB⟩ hK'
    have hn : nextF b = none := by
      cases hn : nextF b with
      | none => rfl
      | some y =>
        have h3 := (next_some hn).2.2
        obtain ⟨m, hm⟩ : ∃ m, b.length = m + 1 := ⟨b.length - 1, by omega⟩
        rw [hm, frX_some hn] at h0; cases h0
    have f0 := y0.frozen
    have c0 := y0.cell
    have z1 := fr_other y1 ⟨w.heap.size, 0, none⟩ (by simp) (.slice none 0 0)
    have c1 := z1.cell
    have f1 := y1.frozen
    gi_wp2
    refine ⟨by simp, .inl ⟨_, _, rfl, run_takeDeferred (((KeepsOthers.setCell _ _ _).trans (KeepsOthers.setCell _ _ _)).same D _ hK' rfl), ?_⟩⟩
    have u0 : Boxed (((W.setCell ⟨w.heap.size, 0, none⟩ (.slice none 0 0)).setCell ⟨w.heap.size + 1, 0, none⟩ (.int .i64 0)).putObj D (.deferred none)) w.heap.size 29 (.slice none 0 0) := (fr_other (y0.set _) _ (by simp) _).kept (grownBy_putObj' _ D _) (by simp; omega)
    have u1 : Boxed (((W.setCell ⟨w.heap.size, 0, none⟩ (.slice none 0 0)).setCell ⟨w.heap.size + 1, 0, none⟩ (.int .i64 0)).putObj D (.deferred none)) (w.heap.size + 1) 3 (.int .i64 0) := (z1.set _).kept (grownBy_putObj' _ D _) (by simp; omega)
    have c5 := u0.cell
    have c6 := u1.cell
    refine ⟨.tuple #[.slice none 0 0, .int .i64 0], by simp [results, Try.f81, go_sem, c5, c6], none, 0, [], 0, rfl, NewA.none _, OwnS.none _, .inr ⟨hn, rfl, rfl⟩, ?_⟩
    have hbs := (hB.setCell (p := ⟨w.heap.size, 0, none⟩) (Nat.le_refl _) (.slice none 0 0)).setCell (p := ⟨w.heap.size + 1, 0, none⟩) (by simp) (.int .i64 0)
    exact hbs.trans (belowK_b (w := w) (Nat.le_refl _) _ D _ _ (by omega) (((KeepsOthers.setCell _ _ _).trans (KeepsOthers.setCell _ _ _)).same D _ hK' rfl) rfl rfl)
  case stop =>
    rintro D c1 k W hD hk ⟨rfl, A', c', x, hn, hna, y0, ho, y1, hB⟩ hK'
    gi_wp2
    refine ⟨by simp, .inl ⟨_, _, rfl, run_takeDeferred hK', ?_⟩⟩
    have u0 : Boxed (W.putObj D (.deferred none)) w.heap.size 29 (.slice A' x.length c') := y0.kept (grownBy_putObj' _ D _) (by simp; omega)
    have u1 : Boxed (W.putObj D (.deferred none)) (w.heap.size + 1) 3 (.int .i64 ((8 + x.length : Nat) : Int)) := y1.kept (grownBy_putObj' _ D _) (by simp; omega)
    have c5 := u0.cell
    have c6 := u1.cell
    refine ⟨.tuple #[.slice A' x.length c', .int .i64 ((8 + x.length : Nat) : Int)], by simp [results, Try.f81, go_sem, c5, c6], A', c', x, _, rfl, hna, ho.keepNC (grownBy_putObj' _ D _) (fun r e => by cases e; exact ⟨_, hK', rfl⟩), .inl ⟨hn, rfl⟩, ?_⟩
    exact hB.trans (belowK_b (w := w) (Nat.le_refl _) _ D _ _ (by omega) hK' rfl rfl)
theorem next_any (A : Option Addr) (c : Nat) (b : Bs) (w : World) (hs : SlAt w A c b) (hl : b.length ≤ 100000) :
    Calls Try.prog 81 #[.slice A b.length c] w (NextPost b w) :=
  (next_at A c b w hs hl).mono fun _ _ ⟨A', c', x, n, e, _, h2, h3, h4⟩ => ⟨A', c', x, n, e, h2, h3, h4⟩
end Go.Proofs.Ytojkifcclgecoaa
