/-
  The contracts of (rows).rings, graph.Rings.
-/
import Derived.Test.YteigepblocbnlaaGpRingsI
namespace Go.Proofs.Yteigepblocbnlaa.Gp
open Go Go.RowKit Go.Shelf Go.Proofs
attribute [local go_sem] Oper.semAt_some

theorem ringsI_any (A : Option Addr) (n c : Nat) (w : World) :
    Calls Try.prog 25 #[.slice A n c] w fun e w' =>
      e = .returned (.func (.func 30) #[] #[.pointer (some ⟨w.heap.size, 0, none⟩)]) ∧ w' = w.alloc (.cells #[.slice A n c] 44) := by
  go_enter Try.func25, Try.ntmps25
  go_wp2
  go_ret
  exact ⟨rfl, rfl⟩
theorem rings_list (m bx rb lim R n : Nat) (rows : List RX) (rs : List (List Nat)) (hrs : ringsOf (rowsL rows) (turnT (rowsL rows) n) n (n + 1) = rs) (w : World) (hlim : lim ≤ w.heap.size) (hlen : rows.length = n) (hn : n ≤ 2000)
    (hE : ∀ x y, x < n → y ∈ row (rowsL rows) x → y < n) (hX : ∀ x ∈ rows, x.l.length ≤ 100000) (hT : (revK (rowsL rows) n).length ≤ 100000) :
    SeqOwn Fence.wide m Try.prog 30 #[.pointer (some ⟨bx, 0, none⟩)] (ringV w.heap.size rs) rs.length (ringR bx rb lim R n rows) w :=
  fun l J W hW hJB hR hY h0 => rings1_in m l bx rb lim R n rows rs hrs J W (Nat.le_trans hlim hW.size) hlen hn hE hX hT hJB hR
    (fun k vs W1 hk hj ⟨s, A, c, h1, h2, h3, h4⟩ => hY k vs W1 hk hj ⟨s, A, c, h1, h2, h3, h4.mono hW.size⟩) h0

theorem make_ints (w : World) (n : Nat) (hn : n ≤ 100000) : (Instr.makeSlice 30 (.int .i64 (n : Int)) (.int .i64 (n : Int))).run Try.prog w = .ok (.slice (some ⟨w.heap.size, 0, none⟩) n n) (w.alloc (.cells (valsI (List.replicate n 0)).toArray 3)) := by
  obtain ⟨i0, hi, hz0, hz1, hz2⟩ := info_parts gp_int
  have hr := run_make (P := Try.prog) w 30 3 i0 (.int .i64 0) Try.underlying30 hi hz0 .i64 .i64 n n (by omega) (Int.le_refl _) (by rw [hz2]; omega) (by omega)
  simp only [Int.toNat_natCast] at hr
  rw [hr, hz1]
  have e : madeCells (Value.int .i64 0).cells (n * 1) = (valsI (List.replicate n 0)).toArray := by
    apply Array.toList_inj.1
    unfold valsI
    rw [Nat.mul_one, List.map_replicate]
    show (madeCells #[Value.int .i64 0] n).toList = _
    rw [toList_madeCells_one]; rfl
  rw [e]
/-- A right graph's numbers. -/
theorem right_nats {n : Int} {l : List EI} (h : rightB n l = true) : ∃ (N : Nat) (m : List EN), n = (N : Int) ∧ l = castE m ∧ N ≤ 2000 ∧ ∀ e ∈ m, e.1 < N ∧ e.2 < N := by
  unfold rightB sizeB at h
  simp only [Bool.and_eq_true, decide_eq_true_eq, List.all_eq_true] at h
  obtain ⟨⟨h1, h2⟩, h3⟩ := h
  have he : ∀ e ∈ l, 0 ≤ e.1 ∧ e.1 < n ∧ 0 ≤ e.2 ∧ e.2 < n := fun e hm => by
    have := h3 e hm
    unfold edgeB endB at this
    simp only [Bool.and_eq_true, decide_eq_true_eq] at this
    omega
  refine ⟨n.toNat, l.map (fun e => (e.1.toNat, e.2.toNat)), by omega, ?_, by omega, ?_⟩
  · unfold castE
    rw [List.map_map]
    conv => lhs; rw [← List.map_id l]
    apply List.map_congr_left
    intro e hm
    have := he e hm
    simp only [id, Function.comp]
    ext <;> simp <;> omega
  · intro e hm
    obtain ⟨e0, h0, rfl⟩ := List.mem_map.1 hm
    have := he e0 h0
    simp only; omega
/-- What rowsOf makes may be. -/
theorem adj_ok {N : Nat} {m : List EN} (h : ∀ e ∈ m, e.1 < N ∧ e.2 < N) : (∀ x y, x < N → y ∈ row (adjT N m) x → y < N) ∧ (revK (adjT N m) N).length = m.length := by
  refine ⟨fun x y _ hy => ?_, ?_⟩
  · rw [row_adjT (fun e he => (h e he).1)] at hy
    exact (h _ hy).2
  · have h1 := revK_lens (adjT N m)
    rw [adjT_length] at h1
    rw [h1, lens_adj N m (fun e he => (h e he).1)]
def ringsN (N : Nat) (m : List EN) : List (List Nat) := ringsOf (adjT N m) (turnT (adjT N m) N) N (N + 1)
def RT (N : Nat) (m : List EN) : List Nat := leastsT (List.replicate N 0) (ringsN N m)
theorem RT_length (N : Nat) (m : List EN) : (RT N m).length = N := by unfold RT; rw [leastsT_length]; simp
theorem leastsT_snoc (d : List Nat) (l : List (List Nat)) (s : List Nat) : leastsT d (l ++ [s]) = setAll (leastsT d l) s (leastT s) := by unfold leastsT; simp
theorem told_lt {A : List (List Nat)} {n : Nat} {b : List Bool} {l : List (List Nat)} (t : Told A n b l) : ∀ s ∈ l, ∀ x ∈ s, x < n := by
  induction t with
  | none h => intro s hs; simp at hs
  | ring h0 h1 h2 h3 h4 h5 h6 _ ih =>
    intro s hs x hx
    rcases List.mem_cons.1 hs with rfl | hs
    · exact ((h2 x x hx).1 hx).1.lt.1
    · exact ih s hs x hx
theorem ringsOf_lt {A : List (List Nat)} {n : Nat} {rs : List (List Nat)} (hA : ∀ x y, x < n → y ∈ row A x → y < n) (h : ringsOf A (turnT A n) n (n + 1) = rs) : ∀ s ∈ rs, ∀ x ∈ s, x < n := by
  rw [← h]
  exact told_lt (ringsOf_told (turnT_turned hA) (Nat.lt_succ_self n))
theorem valsI_set (d : List Nat) (i x : Nat) : (valsI d).toArray.setIfInBounds i (.int .i64 x) = (valsI (d.set i x)).toArray := by
  unfold valsI; rw [List.setIfInBounds_toArray, List.map_set]; rfl
theorem setAll_snoc {α : Type} (d : List α) (s : List Nat) (x : Nat) (m : α) : setAll d (s ++ [x]) m = (setAll d s m).set x m := by unfold setAll; simp
/-- What is known between two rings. -/
structure LeaI (w0 B bL gL bR rb lim R N : Nat) (w : World) (rows : List RX) (rs : List (List Nat)) (k : Nat) (X : World) : Prop where
  b : Boxed X bL 30 (.slice (some ⟨gL, 0, none⟩) N N)
  g : X.heap[gL]? = some (.cells (valsI (leastsT (List.replicate N 0) (rs.take k))).toArray 3 (0, 0))
  r : ringR bR rb lim R N rows X
  low : Below w0 w X
  sz : B ≤ X.heap.size
  lt : bL < B ∧ gL < B ∧ bR < B ∧ lim ≤ B ∧ w0 ≤ B ∧ w0 ≤ bL ∧ w0 ≤ gL
theorem LeaI.below {w0 B bL gL bR rb lim R N : Nat} {w : World} {rows : List RX} {rs : List (List Nat)} {k : Nat} {X Y : World} (h : LeaI w0 B bL gL bR rb lim R N w rows rs k X) (hb : Below B X Y) : LeaI w0 B bL gL bR rb lim R N w rows rs k Y :=
  ⟨(hb.block _ h.lt.1).trans h.b, (hb.block _ h.lt.2.1).trans h.g, ⟨(hb.block _ h.lt.2.2.1).trans h.r.1, h.r.2.below (hb.mono h.lt.2.2.2.1)⟩, h.low.trans (hb.mono h.lt.2.2.2.2.1), Nat.le_trans h.sz hb.size, h.lt⟩
theorem LeaI.next {w0 B bL gL bR rb lim R N : Nat} {w : World} {rows : List RX} {rs : List (List Nat)} {k : Nat} {X Y : World} (h : LeaI w0 B bL gL bR rb lim R N w rows rs k X) (hT : TurnV X.heap.size gL X Y) (hgr : gL < rb)
    (hY : Y.heap[gL]? = some (.cells (valsI (leastsT (List.replicate N 0) (rs.take (k + 1)))).toArray 3 (0, 0))) : LeaI w0 B bL gL bR rb lim R N w rows rs (k + 1) Y := by
  have nB : ∀ {j t u}, Boxed X j t u → t ≠ 3 → j ≠ gL := fun {j t u} hb ht e => by
    have hg := h.g
    unfold Boxed at hb; rw [e, hg] at hb; simp at hb; exact ht hb.2.symm
  obtain ⟨l1, l2, l3, l4, l5, l6, l7⟩ := h.lt
  have hsz := h.sz
  refine ⟨Boxed.turn h.b hT (by omega) (nB h.b (by decide)), hY, ⟨Boxed.turn h.r.1 hT (by omega) (nB h.r.1 (by decide)), h.r.2.keepB fun j o hj hjl ho => (hT.block j (by omega) (by omega)).trans ho⟩, h.low.trans ⟨hT.os, hT.tape, hT.output, hT.size, fun j hj => hT.block j (by omega) (by omega)⟩, Nat.le_trans hsz hT.size, h.lt⟩

set_option maxRecDepth 100000 in
set_option maxHeartbeats 8000000 in
theorem rings_bad (n : Int) (A : Option Addr) (c : Nat) (l : List EI) (w : World) (hl : EdgesAt w A l) (hm : l.length ≤ 100000) (hr : rightB n l = false) :
    Calls Try.prog 18 #[.int .i64 n, .slice A l.length c] w fun e w' => e = .returned (.slice none 0 0) ∧ Below w.heap.size w w' := by
  have HRT := Lib.hid (right_any n A c l w hl (by omega))
  rw [hr] at HRT
  refine (callsIn_wide (n := 777)).1 ?_
  generalize 777 = m
  refine callsIn_of_wp_marks Try.func18 rfl trivial ?_ rfl
  simp only [Try.ntmps18, List.size_toArray, List.length_cons, List.length_nil, Nat.reduceAdd, Nat.reduceSub, Array.replicate_succ, Array.replicate_zero, List.push_toArray, List.append_toArray, List.nil_append, List.cons_append]
  gi_wp2
  refine wide_call HRT.out ?_
  rintro e w1 ⟨rfl, hb⟩
  have HB := Lib.hid hb
  clear hb
  gi_wp2
  exact ⟨.slice none 0 0, by simp [results, Try.f18, go_sem], rfl, HB.out⟩

set_option maxRecDepth 100000 in
set_option maxHeartbeats 8000000 in
theorem rings_any (N : Nat) (A : Option Addr) (c : Nat) (m : List EN) (w : World) (hl : EdgesAt w A (castE m)) (hm : m.length ≤ 100000) (hN : N ≤ 2000) (hr : ∀ e ∈ m, e.1 < N ∧ e.2 < N) (hrt : rightB N (castE m) = true) :
    Calls Try.prog 18 #[.int .i64 N, .slice A m.length c] w fun e w' => ∃ g, e = .returned (.slice (some ⟨g, 0, none⟩) N N) ∧ w'.heap[g]? = some (.cells (valsI (RT N m)).toArray 3 (0, 0)) ∧ Below w.heap.size w w' := by
  have hrt2 := right_any N A c (castE m) w hl (by rw [castE_length]; omega)
  rw [hrt, castE_length] at hrt2
  have HRT := Lib.hid hrt2
  have HL := Lib.hid hl
  clear hrt2 hl
  refine (callsIn_wide (n := 777)).1 ?_
  generalize 777 = fn0
  refine callsIn_of_wp_marks Try.func18 rfl trivial ?_ rfl
  simp only [Try.ntmps18, List.size_toArray, List.length_cons, List.length_nil, Nat.reduceAdd, Nat.reduceSub, Array.replicate_succ, Array.replicate_zero, List.push_toArray, List.append_toArray, List.nil_append, List.cons_append]
  obtain ⟨M, hM⟩ : ∃ M, m.length = M := ⟨_, rfl⟩
  rw [hM] at HRT hm ⊢
  gi_wp2
  refine wide_call HRT.out ?_
  rintro e w1 ⟨rfl, hb⟩
  have hmk := make_ints w1 N (by omega)
  obtain ⟨w2, hw2⟩ : ∃ w2, (w1.alloc (.cells (valsI (List.replicate N 0)).toArray 3)).alloc (.cells #[.slice (some ⟨w1.heap.size, 0, none⟩) N N] 30) = w2 := ⟨_, rfl⟩
  have hs2 : w2.heap.size = w1.heap.size + 2 := by rw [← hw2]; simp
  have hb2 : Below w1.heap.size w1 w2 := by rw [← hw2]; exact ((Below.refl _ _).alloc (Nat.le_refl _) _).alloc (by simp) _
  have x1 : w2.heap[w1.heap.size]? = some (.cells (valsI (List.replicate N 0)).toArray 3 (0, 0)) := by
    rw [← hw2]; exact (Below.heap_alloc _ _ _ (by simp)).trans (World.alloc_heap_new w1 _)
  have x2 : Boxed w2 (w1.heap.size + 1) 30 (.slice (some ⟨w1.heap.size, 0, none⟩) N N) := by
    rw [← hw2]; have := Boxed.new (w1.alloc (.cells (valsI (List.replicate N 0)).toArray 3)) 30 (.slice (some ⟨w1.heap.size, 0, none⟩) N N); rw [World.size_alloc] at this; exact this
  have hro := rowsOf_any N A c m w2 (HL.out.below (hb.trans (hb2.mono hb.size))) hN (by omega) hr
  rw [hM] at hro
  have HRO := Lib.hid hro
  have HB := Lib.hid hb
  have HB2 := Lib.hid hb2
  have X1 := Lib.hid x1
  have X2 := Lib.hid x2
  have HM := Lib.hid hM
  have HS2 := Lib.hid hs2
  clear hb hb2 x1 x2 hro hM hs2
  gi_wp2
  refine wide_call HRO.out ?_
  rintro e w3 ⟨R, rows, rfl, hM3, hL3, hB3⟩
  have HM3 := Lib.hid hM3
  have HL3 := Lib.hid hL3
  have HB3 := Lib.hid hB3
  clear hM3 hL3 hB3 HRO hmk
  gi_wp2_with (refine wide_call (ringsI_any _ _ _ _) ?_; rintro e w' ⟨rfl, rfl⟩)
  obtain ⟨w4, hw4⟩ : ∃ w4, w3.alloc (.cells #[.slice (some ⟨R, 0, none⟩) N N] 44) = w4 := ⟨_, rfl⟩
  have hs4 : w4.heap.size = w3.heap.size + 1 := by rw [← hw4]; simp
  have hb4 : Below w3.heap.size w3 w4 := by rw [← hw4]; exact (Below.refl _ _).alloc (Nat.le_refl _) _
  have xR : Boxed w4 w3.heap.size 44 (.slice (some ⟨R, 0, none⟩) N N) := by rw [← hw4]; exact Boxed.new w3 _ _
  have hlen : rows.length = N := by rw [← rowsL_length, HL3.out, adjT_length]
  obtain ⟨hE, hT⟩ := adj_ok hr
  rw [HM.out] at hT
  have hE3 : ∀ x y, x < N → y ∈ row (rowsL rows) x → y < N := by rw [HL3.out]; exact hE
  have hT3 : (revK (rowsL rows) N).length ≤ 100000 := by rw [HL3.out]; omega
  have hX3 : ∀ x ∈ rows, x.l.length ≤ 100000 := fun x hx => by
    have h1 : x.l ∈ rowsL rows := by unfold rowsL; exact List.mem_map.2 ⟨x, hx, rfl⟩
    have h2 := mem_lens h1
    rw [HL3.out, lens_adj N m (fun e he => (hr e he).1), HM.out] at h2; omega
  obtain ⟨rs, hrs⟩ : ∃ rs, ringsOf (rowsL rows) (turnT (rowsL rows) N) N (N + 1) = rs := ⟨_, rfl⟩
  have hRT : RT N m = leastsT (List.replicate N 0) rs := by unfold RT ringsN; rw [← hrs, HL3.out]
  have hrl : ∀ s ∈ rs, ∀ x ∈ s, x < N := ringsOf_lt hE3 hrs
  have HSQ := Lib.hid (rings_list (fn0 - 1) w3.heap.size w2.heap.size w3.heap.size R N rows rs hrs w4 (by omega) hlen hN hE3 hX3 hT3)
  have hz1 := HB3.out.size
  have hz0 := HB.out.size
  have hz2 := HS2.out
  have hI0 : LeaI w.heap.size w4.heap.size (w1.heap.size + 1) w1.heap.size w3.heap.size w2.heap.size w3.heap.size R N w rows rs 0 w4 := by
    refine ⟨(hb4.block _ (by omega)).trans ((HB3.out.block _ (by omega)).trans X2.out), ?_, ⟨xR, HM3.out.below hb4⟩, HB.out.trans ((HB2.out.mono hz0).trans ((HB3.out.mono (by omega)).trans (hb4.mono (by omega)))), Nat.le_refl _, ⟨by omega, by omega, by omega, by omega, by omega, by omega, by omega⟩⟩
    exact (hb4.block _ (by omega)).trans ((HB3.out.block _ (by omega)).trans X1.out)
  have HI0 := Lib.hid hI0
  have HRT2 := Lib.hid hRT
  have HRL := Lib.hid hrl
  clear hI0 hRT hrl hb4 xR hlen hE hT hE3 hT3 hX3 hrs hz1 hz0 hz2 hs4
  rw [hw4]
  have hgr : w1.heap.size < w2.heap.size := by have := HS2.out; omega
  refine wpIn_rangeOwn (R := ringR w3.heap.size w2.heap.size w3.heap.size R N rows) rfl (fun h => absurd h (by decide)) (gf := 30) (lb := #[.pointer (some ⟨w3.heap.size, 0, none⟩)]) rfl trivial (enters_of Try.func30 (by kernel_rfl) rfl)
    HSQ.out (Below.refl _ _) (fun k vs W h => by obtain ⟨s, A, c, _, _, rfl, _⟩ := h; rfl)
    (LeaI w.heap.size w4.heap.size (w1.heap.size + 1) w1.heap.size w3.heap.size w2.heap.size w3.heap.size R N w rows rs) ?own ?ownB HI0.out (fun k X h => h.r)
    (fun k vs a' X => ∃ (s : List Nat) (A' : Option Addr) (c' : Nat), rs[k]? = some s ∧ s ≠ [] ∧ OI w4.heap.size X (.slice A' s.length c') s ∧ a' = { tmps := #[.int .i64 N, .slice A M c, undef, undef, .slice none 0 0, .pointer (some ⟨w1.heap.size + 1, 0, none⟩), .slice A' s.length c', undef, undef, undef, .int .i64 N, .slice A M c, .bool true, .bool false, .int .i64 N, .slice (some ⟨w1.heap.size, 0, none⟩) N N, .int .i64 N, .slice A M c, .slice (some ⟨R, 0, none⟩) N N, .func (.func 30) #[] #[.pointer (some ⟨w3.heap.size, 0, none⟩)], .slice A' s.length c', undef, undef, undef, undef, undef, undef, undef, undef, undef, undef, undef, undef, undef, undef], defers := [] }) ?ax ?assign ?body ?done
  case own =>
    rintro k X Y row hx hg hr'
    exact hx.below ⟨hg.os, hg.tape, hg.output, hg.size, fun j hj => hg.block j (by have := hx.sz; omega) (fun e => by have := (hr' j e.symm).1; omega)⟩
  case ownB => exact fun k X Y hx hb => hx.below (hb.mono (by omega))
  case ax =>
    rintro k vs a' _ X Y row ⟨s, A', c', h1, h2, h3, h4⟩ hg hr'
    refine ⟨s, A', c', h1, h2, h3.keep fun j o hj hoj ho => (hg.block j (Array.getElem?_eq_some_iff.1 ho).1 (fun e => ?_)).trans ho, h4⟩
    obtain ⟨_, o', ho', hc'⟩ := hr' j e.symm
    obtain ⟨_, cur, _, hcur⟩ := h3.slice.2.2.2.2 j (by rw [← own_blk A' s.length c']; exact hoj)
    rw [hcur] at ho'; cases ho'; simp [Obj.isCells] at hc'
  case assign =>
    rintro l k vs X K hi ⟨s, A', c', h1, h2, rfl, h4⟩ hK2
    gi_wp2
    exact hK2 _ _ (KeepsFrom.refl _ _) (KpB.refl _ _) hi ⟨s, A', c', h1, h2, h4, rfl⟩
  case body =>
    rintro l2 k vs a' X hk hl2 _ hI ⟨s, A', c', hs, hs0, hO, rfl⟩
    obtain ⟨_, hia, hc1, hc2, hgA⟩ := hO.slice
    unfold maxLen at hc2
    have HC := Lib.hid (min_any A' c' s X hia hs0 (by omega))
    obtain ⟨μ, hμ⟩ : ∃ μ, leastT s = μ := ⟨_, rfl⟩
    obtain ⟨L, hL⟩ : ∃ L, s.length = L := ⟨_, rfl⟩
    rw [hμ, hL] at HC
    rw [hL] at hc1 ⊢
    have Hμ := Lib.hid hμ
    have HL2 := Lib.hid hL
    have HII := Lib.hid hI
    have HIA := Lib.hid hia
    have HS := Lib.hid hs
    have HGA := Lib.hid hgA
    clear hμ hL hia hs hs0 hgA hO
    gi_wp2
    refine wide_call_in HC.out ?_
    rintro e X1 ⟨rfl, hb1⟩
    have HB1 := Lib.hid hb1
    clear HC hb1
    gi_wp2
    gi_loopw [25] (fun y wr => ∃ (j : Nat), j ≤ L ∧ y = .int .i64 j ∧ Hid (wr.heap[w1.heap.size]? = some (.cells (valsI (setAll (leastsT (List.replicate N 0) (rs.take k)) (s.take j) μ)).toArray 3 (0, 0)) ∧ TurnV X.heap.size w1.heap.size X wr)) (fun y _ => L - (intOf y).toNat)
    case atStart => exact ⟨0, Nat.zero_le _, rfl, (HB1.out.block _ (by have := hI.sz; have := hI.lt; omega)).trans hI.g, TurnV.of_below HB1.out⟩
    case round =>
      obtain ⟨j, hj, rfl, HJ⟩ := hrel
      by_cases h1 : j < L
      · obtain ⟨x, hx⟩ : ∃ x, s[j]? = some x := ⟨_, List.getElem?_eq_getElem (by have := HL2.out; omega)⟩
        have hxN : x < N := HRL.out s (List.mem_of_getElem? HS.out) x (List.mem_of_getElem? hx)
        obtain ⟨g', o', hA, hcl⟩ := HIA.out (by have := HL2.out; omega)
        have hgb := (HGA.out g' (by rw [hA]; rfl))
        have hgx : g' < X.heap.size := by obtain ⟨_, cur, _, hcur⟩ := hgb; exact (Array.getElem?_eq_some_iff.1 hcur).1
        have hne : g' ≠ w1.heap.size := by have := hgb.1; have := HII.out.lt; omega
        have c1 := (World.cell?_of_block (a := ⟨g', o' + j, none⟩) (HJ.out.2.block g' hgx hne)).trans (hcl j x hx)
        unfold vI at c1
        have c2 := (Boxed.turn HII.out.b HJ.out.2 (by have := HII.out.lt; have := HII.out.sz; omega) (by omega)).cell
        have hlen : (setAll (leastsT (List.replicate N 0) (rs.take k)) (s.take j) μ).length = N := by rw [setAll_length, leastsT_length]; simp
        obtain ⟨y, hy⟩ : ∃ y, (setAll (leastsT (List.replicate N 0) (rs.take k)) (s.take j) μ)[x]? = some y := ⟨_, List.getElem?_eq_getElem (by omega)⟩
        have g1 : wr.cell? ⟨w1.heap.size, x, none⟩ = some (.int .i64 y) := (cell_of_row _ _ _ _ _ _ HJ.out.1).trans (by rw [List.getElem?_toArray]; exact valsI_get hy)
        have f1 : wr.frozen? ⟨w1.heap.size, x, none⟩ = false := frozen_of_row _ _ _ _ _ HJ.out.1
        have HX2 := Lib.hid hx
        have k1 : (j : Int) < (L : Int) := by omega
        have k2 : (x : Int) < (N : Int) := by omega
        have wj : IntKind.i64.wrap (j : Int) = (j : Int) := IntWalk.i64_in _ (by omega)
        have wx : IntKind.i64.wrap (x : Int) = (x : Int) := IntWalk.i64_in _ (by omega)
        rw [hA]
        clear hx hA hcl hgb hgx hne hlen hy
        gi_wp2
        refine ⟨⟨j + 1, by omega, by go_num, ?_, HJ.out.2.trans (TurnV.put _)⟩, by simp only [intOf]; omega⟩
        rw [heap_setCell_same _ _ _ _ _ _ HJ.out.1, valsI_set, List.take_add_one, HX2.out]
        show _ = some (Obj.cells (valsI (setAll _ (s.take j ++ [x]) μ)).toArray _ _)
        rw [setAll_snoc]
      · obtain rfl : j = L := by omega
        have hnx : LeaI w.heap.size w4.heap.size (w1.heap.size + 1) w1.heap.size w3.heap.size w2.heap.size w3.heap.size R N w rows rs (k + 1) wr := by
          refine HII.out.next HJ.out.2 hgr ?_
          rw [HJ.out.1, List.take_add_one, HS.out, ← HL2.out, List.take_length]
          show _ = some (Obj.cells (valsI (leastsT _ (rs.take k ++ [s]))).toArray _ _)
          rw [leastsT_snoc, Hμ.out]
        have HNX := Lib.hid hnx
        clear hnx
        gi_wp2
        refine ⟨⟨HJ.out.2.size, fun i o hi ho hcells => (HJ.out.2.block i (Array.getElem?_eq_some_iff.1 ho).1 (by have := HII.out.lt; omega)).trans ho⟩, ⟨HJ.out.2.size, fun i hi hl => HJ.out.2.block i hl (by have := HII.out.lt; omega)⟩, HNX.out⟩
  case done =>
    rintro D X hD hI hdef
    have c0 := hI.b.cell
    gi_wp2
    refine ⟨by simp, .inl ⟨_, _, rfl, run_takeDeferred hdef, ?_⟩⟩
    have hg := grownBy_putObj' X D (.deferred none)
    have hbD : Below w4.heap.size X (X.putObj D (.deferred none)) := ⟨hg.os, hg.tape, hg.output, hg.size, fun j hj => hg.block j (by have := hI.sz; omega) (fun e => by cases e; omega)⟩
    have hI2 := hI.below hbD
    refine ⟨.slice (some ⟨w1.heap.size, 0, none⟩) N N, by simp [results, Try.f18, go_sem], _, rfl, ?_, hI2.low⟩
    have := hI2.g
    rw [List.take_length] at this
    rw [HRT2.out]; exact this
end Go.Proofs.Yteigepblocbnlaa.Gp
