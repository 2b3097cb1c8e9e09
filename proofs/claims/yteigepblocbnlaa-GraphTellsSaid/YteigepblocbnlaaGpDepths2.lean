/-
  The contract of graph.Depths.
-/
import Derived.Test.YteigepblocbnlaaGpRepeat
namespace Go.Proofs.Yteigepblocbnlaa.Gp
open Go Go.RowKit Go.Shelf Go.Proofs
attribute [local go_sem] Oper.semAt_some

def valsZ (l : List Int) : List Value := l.map (fun x => .int .i64 x)
theorem valsZ_get {l : List Int} {i : Nat} {x : Int} (h : l[i]? = some x) : (valsZ l)[i]? = some (.int .i64 x) := by unfold valsZ; rw [List.getElem?_map, h]; rfl
theorem valsZ_set (d : List Int) (i : Nat) (x : Int) : (valsZ d).toArray.setIfInBounds i (.int .i64 x) = (valsZ (d.set i x)).toArray := by
  unfold valsZ; rw [List.setIfInBounds_toArray, List.map_set]
theorem valsZ_M1 (n : Nat) : (List.replicate n vM1).toArray = (valsZ (List.replicate n (-1))).toArray := by unfold valsZ vM1; simp
/-- One ring's depth, as far as some of it. -/
def deepL (A : List (List Nat)) (d : List Int) (s : List Nat) (m : Int) : Int := s.foldl (fun m i => (row A i).foldl (fun m y => max m (d.getD y (-1) + 1)) m) m
def deepR (d : List Int) (r : List Nat) (m : Int) : Int := r.foldl (fun m y => max m (d.getD y (-1) + 1)) m
theorem deepR_snoc (d : List Int) (r : List Nat) (y : Nat) (m : Int) : deepR d (r ++ [y]) m = max (deepR d r m) (d.getD y (-1) + 1) := by unfold deepR; simp
theorem deepL_snoc (A : List (List Nat)) (d : List Int) (s : List Nat) (i : Nat) (m : Int) : deepL A d (s ++ [i]) m = deepR d (row A i) (deepL A d s m) := by unfold deepL deepR; simp
/-- All is -1 or more, B at most. -/
def InB (B : Int) (d : List Int) : Prop := ∀ y, -1 ≤ d.getD y (-1) ∧ d.getD y (-1) ≤ B
theorem deepR_in {B : Int} {d : List Int} (h : InB B d) (r : List Nat) : ∀ m : Int, 0 ≤ m → m ≤ B + 1 → 0 ≤ deepR d r m ∧ deepR d r m ≤ B + 1 := by
  unfold deepR
  induction r with
  | nil => intro m h1 h2; exact ⟨h1, h2⟩
  | cons y r ih =>
    intro m h1 h2
    rw [List.foldl_cons]
    have := h y
    exact ih _ (by omega) (by omega)
theorem deepL_in {B : Int} {A : List (List Nat)} {d : List Int} (h : InB B d) (s : List Nat) : ∀ m : Int, 0 ≤ m → m ≤ B + 1 → 0 ≤ deepL A d s m ∧ deepL A d s m ≤ B + 1 := by
  unfold deepL
  induction s with
  | nil => intro m h1 h2; exact ⟨h1, h2⟩
  | cons i s ih =>
    intro m h1 h2
    rw [List.foldl_cons]
    have := deepR_in h (row A i) m h1 h2
    exact ih _ this.1 this.2
theorem setAll_in {B : Int} {d : List Int} {m : Int} (h : InB B d) (h1 : -1 ≤ m) (h2 : m ≤ B) (s : List Nat) : InB B (setAll d s m) := by
  induction s generalizing d with
  | nil => exact h
  | cons i s ih =>
    refine ih (d := d.set i m) fun y => ?_
    have := h y
    rw [List.getD_eq_getElem?_getD] at this ⊢
    by_cases e : i = y
    · subst e
      by_cases hl : i < d.length
      · rw [List.getElem?_set_self hl]; exact ⟨h1, h2⟩
      · rw [List.getElem?_eq_none (by simp; omega)]; rw [List.getElem?_eq_none (by omega)] at this; exact this
    · rw [List.getElem?_set_ne e]; exact this
theorem InB.mono {B C : Int} {d : List Int} (h : InB B d) (hc : B ≤ C) : InB C d := fun y => by have := h y; omega
theorem depthsT_in (A : List (List Nat)) (l : List (List Nat)) : ∀ (d : List Int) (B : Int), -1 ≤ B → InB B d → InB (B + l.length) (depthsT A d l) := by
  induction l with
  | nil => intro d B _ h; simpa [depthsT] using h
  | cons s l ih =>
    intro d B hB h
    have h1 := deepL_in (A := A) h s 0 (by omega) (by omega)
    have h2 : InB (B + 1) (setAll d s (ringDeep A d s)) := setAll_in (h.mono (by omega)) (by have := h1.1; show -1 ≤ deepL A d s 0; omega) (by exact h1.2) s
    have h3 := ih _ (B + 1) (by omega) h2
    show InB (B + (s :: l).length) (depthsT A (setAll d s (ringDeep A d s)) l)
    exact h3.mono (by simp; omega)
theorem depthsT_snoc (A : List (List Nat)) (d : List Int) (l : List (List Nat)) (s : List Nat) : depthsT A d (l ++ [s]) = setAll (depthsT A d l) s (deepL A (depthsT A d l) s 0) := by
  unfold depthsT
  rw [List.foldl_append]; rfl
theorem in_new (n : Nat) : InB (-1) (List.replicate n (-1)) := fun y => by
  rw [List.getD_eq_getElem?_getD, List.getElem?_replicate]
  split <;> simp
theorem ringsT_length (A : List (List Nat)) (k : Nat) : ∀ (r : List Nat) (b : List Bool), (ringsT A k b r).length ≤ r.length := by
  intro r
  induction r with
  | nil => intro b; simp [ringsT]
  | cons v r ih =>
    intro b
    rw [ringsT]
    split
    · rw [List.length_cons, List.length_cons]; have := ih (vis A k b [] v).1; omega
    · have := ih (vis A k b [] v).1; rw [List.length_cons]; omega
theorem ringsOf_length (A T : List (List Nat)) (n : Nat) : (ringsOf A T n (n + 1)).length ≤ n := by
  unfold ringsOf
  refine Nat.le_trans (ringsT_length _ _ _ _) ?_
  rw [List.length_reverse]
  have := (ordK_facts T n n).2
  show (ordK T n n).2.length ≤ n
  omega
def DZ (N : Nat) (m : List EN) : List Int := depthsT (adjT N m) (List.replicate N (-1)) (ringsN N m)
def DT (N : Nat) (m : List EN) : List Nat := (DZ N m).map Int.toNat
theorem DT_deep {N : Nat} {m : List EN} (h : ∀ e ∈ m, e.1 < N ∧ e.2 < N) : ∃ D : Nat → Nat, Deep (adjT N m) N D ∧ DT N m = (List.range N).map D ∧ valsZ (DZ N m) = valsI (DT N m) := by
  have hE := (adj_ok h).1
  obtain ⟨D, hD, e⟩ := depthsT_deep hE (turnT_turned hE) (Nat.lt_succ_self N)
  have e' : DZ N m = (List.range N).map (fun x => (D x : Int)) := e
  refine ⟨D, hD, ?_, ?_⟩
  · unfold DT; rw [e', List.map_map]; rfl
  · unfold DT; rw [e']; unfold valsZ valsI vI; rw [List.map_map, List.map_map, List.map_map]; rfl
/-- What is known between two rings. -/
structure DepI (w0 B bD gD bS bR rb lim R N : Nat) (w : World) (rows : List RX) (rs : List (List Nat)) (k : Nat) (X : World) : Prop where
  b : Boxed X bD 30 (.slice (some ⟨gD, 0, none⟩) N N)
  g : X.heap[gD]? = some (.cells (valsZ (depthsT (rowsL rows) (List.replicate N (-1)) (rs.take k))).toArray 3 (0, 0))
  s : Boxed X bS 44 (.slice (some ⟨R, 0, none⟩) N N)
  r : ringR bR rb lim R N rows X
  low : Below w0 w X
  sz : B ≤ X.heap.size
  lt : bD < B ∧ gD < B ∧ bR < B ∧ lim ≤ B ∧ w0 ≤ B ∧ w0 ≤ bD ∧ w0 ≤ gD ∧ bS < B
theorem DepI.below {w0 B bD gD bS bR rb lim R N : Nat} {w : World} {rows : List RX} {rs : List (List Nat)} {k : Nat} {X Y : World} (h : DepI w0 B bD gD bS bR rb lim R N w rows rs k X) (hb : Below B X Y) : DepI w0 B bD gD bS bR rb lim R N w rows rs k Y :=
  ⟨(hb.block _ h.lt.1).trans h.b, (hb.block _ h.lt.2.1).trans h.g, (hb.block _ h.lt.2.2.2.2.2.2.2).trans h.s, ⟨(hb.block _ h.lt.2.2.1).trans h.r.1, h.r.2.below (hb.mono h.lt.2.2.2.1)⟩, h.low.trans (hb.mono h.lt.2.2.2.2.1), Nat.le_trans h.sz hb.size, h.lt⟩
theorem DepI.next {w0 B bD gD bS bR rb lim R N : Nat} {w : World} {rows : List RX} {rs : List (List Nat)} {k : Nat} {X Y : World} (h : DepI w0 B bD gD bS bR rb lim R N w rows rs k X) (hT : TurnV X.heap.size gD X Y) (hgr : gD < rb)
    (hY : Y.heap[gD]? = some (.cells (valsZ (depthsT (rowsL rows) (List.replicate N (-1)) (rs.take (k + 1)))).toArray 3 (0, 0))) : DepI w0 B bD gD bS bR rb lim R N w rows rs (k + 1) Y := by
  have nB : ∀ {j t u}, Boxed X j t u → t ≠ 3 → j ≠ gD := fun {j t u} hb ht e => by
    have hg := h.g
    unfold Boxed at hb; rw [e, hg] at hb; simp at hb; exact ht hb.2.symm
  obtain ⟨l1, l2, l3, l4, l5, l6, l7, l8⟩ := h.lt
  have hsz := h.sz
  refine ⟨Boxed.turn h.b hT (by omega) (nB h.b (by decide)), hY, Boxed.turn h.s hT (by omega) (nB h.s (by decide)), ⟨Boxed.turn h.r.1 hT (by omega) (nB h.r.1 (by decide)), h.r.2.keepB fun j o hj hjl ho => (hT.block j (by omega) (by omega)).trans ho⟩, h.low.trans ⟨hT.os, hT.tape, hT.output, hT.size, fun j hj => hT.block j (by omega) (by omega)⟩, Nat.le_trans hsz hT.size, h.lt⟩

set_option maxRecDepth 100000 in
set_option maxHeartbeats 8000000 in
theorem depths_bad (n : Int) (A : Option Addr) (c : Nat) (l : List EI) (w : World) (hl : EdgesAt w A l) (hm : l.length ≤ 100000) (hr : rightB n l = false) :
    Calls Try.prog 20 #[.int .i64 n, .slice A l.length c] w fun e w' => e = .returned (.slice none 0 0) ∧ Below w.heap.size w w' := by
  have HRT := Lib.hid (right_any n A c l w hl (by omega))
  rw [hr] at HRT
  refine (callsIn_wide (n := 777)).1 ?_
  generalize 777 = m
  refine callsIn_of_wp_marks Try.func20 rfl trivial ?_ rfl
  simp only [Try.ntmps20, List.size_toArray, List.length_cons, List.length_nil, Nat.reduceAdd, Nat.reduceSub, Array.replicate_succ, Array.replicate_zero, List.push_toArray, List.append_toArray, List.nil_append, List.cons_append]
  gi_wp2
  refine wide_call HRT.out ?_
  rintro e w1 ⟨rfl, hb⟩
  have HB := Lib.hid hb
  clear hb
  gi_wp2
  exact ⟨.slice none 0 0, by simp [results, Try.f20, go_sem], rfl, HB.out⟩

set_option maxRecDepth 100000 in
set_option maxHeartbeats 16000000 in
theorem depths_any (N : Nat) (A : Option Addr) (c : Nat) (m : List EN) (w : World) (hl : EdgesAt w A (castE m)) (hm : m.length ≤ 100000) (hN : N ≤ 2000) (hr : ∀ e ∈ m, e.1 < N ∧ e.2 < N) (hrt : rightB N (castE m) = true) :
    Calls Try.prog 20 #[.int .i64 N, .slice A m.length c] w fun e w' => ∃ g, e = .returned (.slice (some ⟨g, 0, none⟩) N N) ∧ w'.heap[g]? = some (.cells (valsI (DT N m)).toArray 3 (0, 0)) ∧ Below w.heap.size w w' := by
  have hrt2 := right_any N A c (castE m) w hl (by rw [castE_length]; omega)
  rw [hrt, castE_length] at hrt2
  have HRT := Lib.hid hrt2
  have HL := Lib.hid hl
  clear hrt2 hl
  refine (callsIn_wide (n := 777)).1 ?_
  generalize 777 = fn0
  refine callsIn_of_wp_marks Try.func20 rfl trivial ?_ rfl
  simp only [Try.ntmps20, List.size_toArray, List.length_cons, List.length_nil, Nat.reduceAdd, Nat.reduceSub, Array.replicate_succ, Array.replicate_zero, List.push_toArray, List.append_toArray, List.nil_append, List.cons_append]
  obtain ⟨M, hM⟩ : ∃ M, m.length = M := ⟨_, rfl⟩
  rw [hM] at HRT hm ⊢
  gi_wp2
  refine wide_call HRT.out ?_
  rintro e w1 ⟨rfl, hb⟩
  have HB := Lib.hid hb
  have HRP := Lib.hid (repeat_any N w1.heap.size (w1.alloc (.cells #[vM1] 3)) hN (World.alloc_heap_new w1 _))
  clear hb
  gi_wp2
  refine wide_call HRP.out ?_
  rintro e w2 ⟨g2, rfl, hg2, hb2, hge2⟩
  rw [World.size_alloc] at hge2
  have hb2' : Below w1.heap.size w1 w2 := ((Below.refl _ w1).alloc (Nat.le_refl _) _).trans (hb2.mono (by rw [World.size_alloc]; omega))
  have hgl2 := (Array.getElem?_eq_some_iff.1 hg2).1
  obtain ⟨w3, hw3⟩ : ∃ w3, w2.alloc (.cells #[.slice (some ⟨g2, 0, none⟩) N N] 30) = w3 := ⟨_, rfl⟩
  have hs3 : w3.heap.size = w2.heap.size + 1 := by rw [← hw3]; simp
  have hb3 : Below w2.heap.size w2 w3 := by rw [← hw3]; exact (Below.refl _ _).alloc (Nat.le_refl _) _
  have x2 : Boxed w3 w2.heap.size 30 (.slice (some ⟨g2, 0, none⟩) N N) := by rw [← hw3]; exact Boxed.new w2 _ _
  have x1 : w3.heap[g2]? = some (.cells (valsZ (List.replicate N (-1))).toArray 3 (0, 0)) := by rw [← valsZ_M1]; exact (hb3.block _ hgl2).trans hg2
  have hbw3 : Below w.heap.size w w3 := HB.out.trans ((hb2'.mono HB.out.size).trans (hb3.mono (by have := HB.out.size; have := hb2'.size; omega)))
  have hro := rowsOf_any N A c m w3 (HL.out.below hbw3) hN (by omega) hr
  rw [hM] at hro
  have HRO := Lib.hid hro
  have HB3 := Lib.hid hbw3
  have X1 := Lib.hid x1
  have X2 := Lib.hid x2
  have HM := Lib.hid hM
  have hgw : g2 < w2.heap.size ∧ w.heap.size ≤ g2 ∧ w.heap.size ≤ w2.heap.size := by have := HB.out.size; exact ⟨hgl2, by omega, by have := hb2'.size; omega⟩
  have HS3 := Lib.hid hs3
  clear hb2 hb2' hb3 x1 x2 hro hM hs3 hg2 hge2 hgl2 hbw3
  gi_wp2
  refine wide_call HRO.out ?_
  rintro e w4 ⟨R, rows, rfl, hM4, hL4, hB4⟩
  have HM4 := Lib.hid hM4
  have HL4 := Lib.hid hL4
  have HB4 := Lib.hid hB4
  clear hM4 hL4 hB4 HRO
  obtain ⟨w5, hw5⟩ : ∃ w5, w4.alloc (.cells #[.slice (some ⟨R, 0, none⟩) N N] 44) = w5 := ⟨_, rfl⟩
  have hs5 : w5.heap.size = w4.heap.size + 1 := by rw [← hw5]; simp
  have hb5 : Below w4.heap.size w4 w5 := by rw [← hw5]; exact (Below.refl _ _).alloc (Nat.le_refl _) _
  have xS : Boxed w5 w4.heap.size 44 (.slice (some ⟨R, 0, none⟩) N N) := by rw [← hw5]; exact Boxed.new w4 _ _
  have cS := xS.cell
  have XS := Lib.hid xS
  have HB5 := Lib.hid hb5
  have HS5 := Lib.hid hs5
  clear xS hb5 hs5
  gi_wp2_with (refine wide_call (ringsI_any _ _ _ _) ?_; rintro e w' ⟨rfl, rfl⟩)
  obtain ⟨w6, hw6⟩ : ∃ w6, w5.alloc (.cells #[.slice (some ⟨R, 0, none⟩) N N] 44) = w6 := ⟨_, rfl⟩
  have hs6 : w6.heap.size = w5.heap.size + 1 := by rw [← hw6]; simp
  have hb6 : Below w5.heap.size w5 w6 := by rw [← hw6]; exact (Below.refl _ _).alloc (Nat.le_refl _) _
  have xR : Boxed w6 w5.heap.size 44 (.slice (some ⟨R, 0, none⟩) N N) := by rw [← hw6]; exact Boxed.new w5 _ _
  have hlen : rows.length = N := by rw [← rowsL_length, HL4.out, adjT_length]
  obtain ⟨hE, hT⟩ := adj_ok hr
  rw [HM.out] at hT
  have hE3 : ∀ x y, x < N → y ∈ row (rowsL rows) x → y < N := by rw [HL4.out]; exact hE
  have hT3 : (revK (rowsL rows) N).length ≤ 100000 := by rw [HL4.out]; omega
  have hX3 : ∀ x ∈ rows, x.l.length ≤ 100000 := fun x hx => by
    have h1 : x.l ∈ rowsL rows := by unfold rowsL; exact List.mem_map.2 ⟨x, hx, rfl⟩
    have h2 := mem_lens h1
    rw [HL4.out, lens_adj N m (fun e he => (hr e he).1), HM.out] at h2; omega
  obtain ⟨rs, hrs⟩ : ∃ rs, ringsOf (rowsL rows) (turnT (rowsL rows) N) N (N + 1) = rs := ⟨_, rfl⟩
  have hDZ : DZ N m = depthsT (rowsL rows) (List.replicate N (-1)) rs := by unfold DZ ringsN; rw [← hrs, HL4.out]
  have hrl : ∀ s ∈ rs, ∀ x ∈ s, x < N := ringsOf_lt hE3 hrs
  have hrn : rs.length ≤ N := by rw [← hrs]; exact ringsOf_length _ _ _
  have HSQ := Lib.hid (rings_list (fn0 - 1) w5.heap.size w3.heap.size w4.heap.size R N rows rs hrs w6 (by have := HS5.out; omega) hlen hN hE3 hX3 hT3)
  have hz1 := HB4.out.size
  have hz2 := HS3.out
  have hz5 := HS5.out
  have hI0 : DepI w.heap.size w6.heap.size w2.heap.size g2 w4.heap.size w5.heap.size w3.heap.size w4.heap.size R N w rows rs 0 w6 := by
    refine ⟨(hb6.block _ (by omega)).trans ((HB5.out.block _ (by omega)).trans ((HB4.out.block _ (by omega)).trans X2.out)), ?_, (hb6.block _ (by omega)).trans XS.out, ⟨xR, (HM4.out.below HB5.out).below (hb6.mono (by omega))⟩, HB3.out.trans ((HB4.out.mono (by omega)).trans ((HB5.out.mono (by omega)).trans (hb6.mono (by omega)))), Nat.le_refl _, ⟨by omega, by omega, by omega, by omega, by omega, by omega, by omega, by omega⟩⟩
    exact (hb6.block _ (by omega)).trans ((HB5.out.block _ (by omega)).trans ((HB4.out.block _ (by omega)).trans X1.out))
  have HI0 := Lib.hid hI0
  have HDZ := Lib.hid hDZ
  have HRL := Lib.hid hrl
  have HE3 := Lib.hid hE3
  have HLEN := Lib.hid hlen
  have HX3 := Lib.hid hX3
  have hgr : g2 < w3.heap.size := by omega
  clear hI0 hDZ hrl hb6 xR hlen hE hT hE3 hT3 hX3 hrs hz1 hz2 hz5 hs6 cS
  rw [hw6]
  refine wpIn_rangeOwn (R := ringR w5.heap.size w3.heap.size w4.heap.size R N rows) rfl (fun h => absurd h (by decide)) (gf := 30) (lb := #[.pointer (some ⟨w5.heap.size, 0, none⟩)]) rfl trivial (enters_of Try.func30 (by kernel_rfl) rfl)
    HSQ.out (Below.refl _ _) (fun k vs W h => by obtain ⟨s, A, c, _, _, rfl, _⟩ := h; rfl)
    (DepI w.heap.size w6.heap.size w2.heap.size g2 w4.heap.size w5.heap.size w3.heap.size w4.heap.size R N w rows rs) ?own ?ownB HI0.out (fun k X h => h.r)
    (fun k vs a' X => ∃ (s : List Nat) (A' : Option Addr) (c' : Nat), rs[k]? = some s ∧ s ≠ [] ∧ OI w6.heap.size X (.slice A' s.length c') s ∧ a' = { tmps := #[.int .i64 N, .slice A M c, undef, undef, .slice none 0 0, .pointer (some ⟨w2.heap.size, 0, none⟩), .pointer (some ⟨w4.heap.size, 0, none⟩), .slice A' s.length c', undef, undef, undef, undef, undef, undef, undef, .int .i64 N, .slice A M c, .bool true, .bool false, .slice (some ⟨w1.heap.size, 0, none⟩) 1 1, .int .i64 N, .slice (some ⟨g2, 0, none⟩) N N, .int .i64 N, .slice A M c, .slice (some ⟨R, 0, none⟩) N N, .slice (some ⟨R, 0, none⟩) N N, .func (.func 30) #[] #[.pointer (some ⟨w5.heap.size, 0, none⟩)], .slice A' s.length c', undef, undef, undef, undef, undef, undef, undef, undef, undef, undef, undef, undef, undef, undef, undef, undef, undef, undef, undef, undef, undef, undef, undef, undef, undef, undef, undef, undef, undef, undef, undef, undef, undef, undef, undef, undef], defers := [] }) ?ax ?assign ?body ?done
  case own =>
    rintro k X Y row hx hg hr'
    exact hx.below ⟨hg.os, hg.tape, hg.output, hg.size, fun j hj => hg.block j (by have := hx.sz; omega) (fun e => by have := (hr' j e.symm).1; omega)⟩
  case ownB => exact fun k X Y hx hb => hx.below (hb.mono (by omega))
  case ax =>
    rintro k vs a' _ X Y row ⟨s, A', c', h1, h2, h3, h4⟩ hg hr'
    refine ⟨s, A', c', h1, h2, h3.keep fun j o hj hoj ho => (hg.block j (Array.getElem?_eq_some_iff.1 ho).1 (fun e => ?_)).trans ho, h4⟩
    obtain ⟨_, o', ho', hc'⟩ := hr' j e.symm
    obtain ⟨_, cur, _, hcur⟩ := h3.slice.2.2.2.2 j (by rw [← own_blk A' s.length c']; exact hoj)
    rw [hcur] at ho'; cases ho'; simp [Obj.isCells] at hc'
  case assign =>
    rintro l k vs X K hi ⟨s, A', c', h1, h2, rfl, h4⟩ hK2
    gi_wp2
    exact hK2 _ _ (KeepsFrom.refl _ _) (KpB.refl _ _) hi ⟨s, A', c', h1, h2, h4, rfl⟩
  case body =>
    rintro l2 k vs a' X hk hl2 _ hI ⟨s, A', c', hs, hs0, hO, rfl⟩
    obtain ⟨_, hia, hc1, hc2, hgA⟩ := hO.slice
    unfold maxLen at hc2
    obtain ⟨L, hL⟩ : ∃ L, s.length = L := ⟨_, rfl⟩
    rw [hL] at hc1 ⊢
    obtain ⟨d, hd⟩ : ∃ d, depthsT (rowsL rows) (List.replicate N (-1)) (rs.take k) = d := ⟨_, rfl⟩
    have hdin : InB N d := by
      have := depthsT_in (rowsL rows) (rs.take k) (List.replicate N (-1)) (-1) (by omega) (in_new N)
      rw [hd] at this
      exact this.mono (by rw [List.length_take]; omega)
    have hdl : d.length = N := by rw [← hd, depthsT_length]; simp
    have hgD := hI.g
    rw [hd] at hgD
    have HGD := Lib.hid hgD
    have HD := Lib.hid hd
    have HDIN := Lib.hid hdin
    have HL2 := Lib.hid hL
    have HII := Lib.hid hI
    have HIA := Lib.hid hia
    have HS := Lib.hid hs
    have HGA := Lib.hid hgA
    clear hL hia hs hs0 hgA hO hd hdin hgD
    gi_wp2
    gi_loopw [8, 30] (fun z y wr => ∃ (j : Nat) (v : Int), j ≤ L ∧ z = .int .i64 v ∧ y = .int .i64 j ∧ Hid (v = deepL (rowsL rows) d (s.take j) 0) ∧ Hid (Below X.heap.size X wr)) (fun _ y _ => L - (intOf y).toNat)
    case atStart => exact ⟨0, 0, Nat.zero_le _, rfl, rfl, rfl, Below.refl _ _⟩
    case round =>
      obtain ⟨j, v, hj, rfl, rfl, HV, HB⟩ := hrel
      by_cases h1 : j < L
      · obtain ⟨x, hx⟩ : ∃ x, s[j]? = some x := ⟨_, List.getElem?_eq_getElem (by have := HL2.out; omega)⟩
        have hxN : x < N := HRL.out s (List.mem_of_getElem? HS.out) x (List.mem_of_getElem? hx)
        obtain ⟨g', o', hA, hcl⟩ := HIA.out.below HB.out (by have := HL2.out; omega)
        have c1 := hcl j x hx
        unfold vI at c1
        have hrM := HII.out.r.2.below (HB.out.mono (by have := HII.out.sz; have := HII.out.lt; omega))
        have cSx := (show Boxed wr w4.heap.size _ _ from (HB.out.block _ (by have := HII.out.sz; have := HII.out.lt; omega)).trans HII.out.s).cell
        obtain ⟨u, hu⟩ : ∃ u, rows[x]? = some u := ⟨_, List.getElem?_eq_getElem (by have := HLEN.out; omega)⟩
        have c2 : wr.cell? ⟨R, x, none⟩ = some (.slice u.A u.l.length u.c) := (cell_of_row _ _ _ _ _ _ hrM.blk).trans (cellsR_get hu)
        obtain ⟨q, hq⟩ : ∃ q, u.l.length = q := ⟨_, rfl⟩
        have hq2 := HX3.out u (List.mem_of_getElem? hu)
        rw [hq] at c2 hq2
        have hru := rowsL_row hu
        have HU := Lib.hid hu
        have HRU := Lib.hid hru
        have HQ := Lib.hid hq
        have HX2 := Lib.hid hx
        have hvin := deepL_in (A := rowsL rows) HDIN.out (s.take j) 0 (by omega) (by omega)
        rw [← HV.out] at hvin
        have k1 : (j : Int) < (L : Int) := by omega
        have k2 : (x : Int) < (N : Int) := by omega
        have wj : IntKind.i64.wrap (j : Int) = (j : Int) := IntWalk.i64_in _ (by omega)
        have wx : IntKind.i64.wrap (x : Int) = (x : Int) := IntWalk.i64_in _ (by omega)
        have HVIN := Lib.hid hvin
        rw [hA]
        clear hx hA hcl hrM hu hq hru hvin
        gi_wp2
        clear c1 c2 cSx k1 k2 wj wx
        obtain ⟨wc, hwc⟩ : ∃ wc, wc = wr := ⟨_, rfl⟩
        subst hwc
        gi_loopw [8, 39] (fun z y wr => ∃ (p : Nat) (v2 : Int), p ≤ q ∧ z = .int .i64 v2 ∧ y = .int .i64 p ∧ Hid (v2 = deepR d (u.l.take p) v) ∧ Hid (Below X.heap.size X wr)) (fun _ y _ => q - (intOf y).toNat)
        case atStart => exact ⟨0, v, Nat.zero_le _, rfl, rfl, rfl, HB.out⟩
        case round =>
          obtain ⟨p, v2, hp, rfl, rfl, HV2, HB2⟩ := hrel
          by_cases h2 : p < q
          · obtain ⟨y, hy⟩ : ∃ y, u.l[p]? = some y := ⟨_, List.getElem?_eq_getElem (by have := HQ.out; omega)⟩
            have hyN : y < N := HE3.out x y hxN (by rw [HRU.out]; exact List.mem_of_getElem? hy)
            have hrM := HII.out.r.2.below (HB2.out.mono (by have := HII.out.sz; have := HII.out.lt; omega))
            obtain ⟨_, hiu, _, _, _⟩ := (show OI w3.heap.size wr (.slice u.A u.l.length u.c) u.l from hrM.row u (List.mem_of_getElem? HU.out)).slice
            obtain ⟨g', o', hA, hcl⟩ := hiu (by have := HQ.out; omega)
            have c1 := hcl p y hy
            unfold vI at c1
            have cB := (show Boxed wr w2.heap.size _ _ from (HB2.out.block _ (by have := HII.out.sz; have := HII.out.lt; omega)).trans HII.out.b).cell
            obtain ⟨z, hz⟩ : ∃ z, d[y]? = some z := ⟨_, List.getElem?_eq_getElem (by omega)⟩
            have c2 : wr.cell? ⟨g2, y, none⟩ = some (.int .i64 z) := (cell_of_row _ _ _ _ _ _ ((HB2.out.block _ (by have := HII.out.sz; have := HII.out.lt; omega)).trans HGD.out)).trans (by rw [List.getElem?_toArray]; exact valsZ_get hz)
            have hzd : d.getD y (-1) = z := by rw [List.getD_eq_getElem?_getD, hz]; rfl
            have hzin := HDIN.out y
            rw [hzd] at hzin
            have HZD := Lib.hid hzd
            have HY2 := Lib.hid hy
            have k1 : (p : Int) < (q : Int) := by omega
            have k2 : (y : Int) < (N : Int) := by omega
            have wp : IntKind.i64.wrap (p : Int) = (p : Int) := IntWalk.i64_in _ (by omega)
            have wy : IntKind.i64.wrap (y : Int) = (y : Int) := IntWalk.i64_in _ (by omega)
            have wz : IntKind.i64.wrap (z + 1) = z + 1 := IntWalk.i64_in _ (by omega)
            rw [hA]
            clear hy hA hcl hrM hiu hz hzd
            gi_wp2
            refine ⟨⟨p + 1, max v2 (z + 1), by omega, rfl, by go_num, ?_, HB2.out⟩, by simp only [intOf]; omega⟩
            rw [List.take_add_one, HY2.out]
            show _ = deepR d (u.l.take p ++ [y]) v
            rw [deepR_snoc, HZD.out, HV2.out]
          · obtain rfl : p = q := by omega
            gi_wp2
            refine ⟨⟨j + 1, v2, by omega, rfl, by go_num, ?_, HB2.out⟩, by simp only [intOf]; omega⟩
            rw [List.take_add_one, HX2.out, HV2.out, ← HQ.out, List.take_length]
            show _ = deepL _ d (s.take j ++ [x]) 0
            rw [deepL_snoc, HRU.out, HV.out]
      · obtain rfl : j = L := by omega
        have hv : v = deepL (rowsL rows) d s 0 := by rw [HV.out, ← HL2.out, List.take_length]
        have HVV := Lib.hid hv
        clear hv
        obtain ⟨wc, hwc⟩ : ∃ wc, wc = wr := ⟨_, rfl⟩
        subst hwc
        gi_wp2
        gi_loopw [54] (fun y wr => ∃ (i : Nat), i ≤ j ∧ y = .int .i64 i ∧ Hid (wr.heap[g2]? = some (.cells (valsZ (setAll d (s.take i) v)).toArray 3 (0, 0)) ∧ TurnV X.heap.size g2 X wr)) (fun y _ => j - (intOf y).toNat)
        case atStart => exact ⟨0, Nat.zero_le _, rfl, (HB.out.block _ (by have := HII.out.sz; have := HII.out.lt; omega)).trans HGD.out, TurnV.of_below HB.out⟩
        case round =>
          obtain ⟨i, hi, rfl, HJ⟩ := hrel
          by_cases h2 : i < j
          · obtain ⟨x, hx⟩ : ∃ x, s[i]? = some x := ⟨_, List.getElem?_eq_getElem (by have := HL2.out; omega)⟩
            have hxN : x < N := HRL.out s (List.mem_of_getElem? HS.out) x (List.mem_of_getElem? hx)
            obtain ⟨g', o', hA, hcl⟩ := HIA.out (by have := HL2.out; omega)
            have hgb := (HGA.out g' (by rw [hA]; rfl))
            have hgx : g' < X.heap.size := by obtain ⟨_, cur, _, hcur⟩ := hgb; exact (Array.getElem?_eq_some_iff.1 hcur).1
            have hne : g' ≠ g2 := by have := hgb.1; have := HII.out.lt; omega
            have c1 := (World.cell?_of_block (a := ⟨g', o' + i, none⟩) (HJ.out.2.block g' hgx hne)).trans (hcl i x hx)
            unfold vI at c1
            have c2 := (Boxed.turn HII.out.b HJ.out.2 (by have := HII.out.lt; have := HII.out.sz; omega) (by have := hgw; omega)).cell
            have hlen : (setAll d (s.take i) v).length = N := by rw [setAll_length]; exact hdl
            obtain ⟨y, hy⟩ : ∃ y, (setAll d (s.take i) v)[x]? = some y := ⟨_, List.getElem?_eq_getElem (by omega)⟩
            have g1 : wr.cell? ⟨g2, x, none⟩ = some (.int .i64 y) := (cell_of_row _ _ _ _ _ _ HJ.out.1).trans (by rw [List.getElem?_toArray]; exact valsZ_get hy)
            have f1 : wr.frozen? ⟨g2, x, none⟩ = false := frozen_of_row _ _ _ _ _ HJ.out.1
            have HX2 := Lib.hid hx
            have k1 : (i : Int) < (j : Int) := by omega
            have k2 : (x : Int) < (N : Int) := by omega
            have wj : IntKind.i64.wrap (i : Int) = (i : Int) := IntWalk.i64_in _ (by omega)
            have wx : IntKind.i64.wrap (x : Int) = (x : Int) := IntWalk.i64_in _ (by omega)
            rw [hA]
            clear hx hA hcl hgb hgx hne hlen hy
            gi_wp2
            refine ⟨⟨i + 1, by omega, by go_num, ?_, HJ.out.2.trans (TurnV.put _)⟩, by simp only [intOf]; omega⟩
            rw [heap_setCell_same _ _ _ _ _ _ HJ.out.1, valsZ_set, List.take_add_one, HX2.out]
            show _ = some (Obj.cells (valsZ (setAll _ (s.take i ++ [x]) v)).toArray _ _)
            rw [setAll_snoc]
          · obtain rfl : i = j := by omega
            have hnx : DepI w.heap.size w6.heap.size w2.heap.size g2 w4.heap.size w5.heap.size w3.heap.size w4.heap.size R N w rows rs (k + 1) wr := by
              refine HII.out.next HJ.out.2 hgr ?_
              rw [HJ.out.1, List.take_add_one, HS.out, ← HL2.out, List.take_length]
              show _ = some (Obj.cells (valsZ (depthsT _ _ (rs.take k ++ [s]))).toArray _ _)
              rw [depthsT_snoc, HD.out, HVV.out]
            have HNX := Lib.hid hnx
            clear hnx
            gi_wp2
            refine ⟨⟨HJ.out.2.size, fun i' o hi' ho hcells => (HJ.out.2.block i' (Array.getElem?_eq_some_iff.1 ho).1 (by have := HII.out.lt; omega)).trans ho⟩, ⟨HJ.out.2.size, fun i' hi' hl => HJ.out.2.block i' hl (by have := HII.out.lt; omega)⟩, HNX.out⟩
  case done =>
    rintro D X hD hI hdef
    have c0 := hI.b.cell
    gi_wp2
    refine ⟨by simp, .inl ⟨_, _, rfl, run_takeDeferred hdef, ?_⟩⟩
    have hg := grownBy_putObj' X D (.deferred none)
    have hbD : Below w6.heap.size X (X.putObj D (.deferred none)) := ⟨hg.os, hg.tape, hg.output, hg.size, fun j hj => hg.block j (by have := hI.sz; omega) (fun e => by cases e; omega)⟩
    have hI2 := hI.below hbD
    refine ⟨.slice (some ⟨g2, 0, none⟩) N N, by simp [results, Try.f20, go_sem], _, rfl, ?_, hI2.low⟩
    have := hI2.g
    rw [List.take_length, ← HDZ.out] at this
    obtain ⟨_, _, _, e⟩ := DT_deep hr
    rw [← e]; exact this
end Go.Proofs.Yteigepblocbnlaa.Gp
