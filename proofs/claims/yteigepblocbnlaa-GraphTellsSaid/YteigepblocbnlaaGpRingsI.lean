/-
  The iterator of (rows).rings: ring after ring.
-/
import Derived.Test.YteigepblocbnlaaGpBack
namespace Go.Proofs.Yteigepblocbnlaa.Gp
open Go Go.RowKit Go.Shelf Go.Proofs
attribute [local go_sem] Oper.semAt_some

theorem ringsT_split (A : List (List Nat)) (k : Nat) (b : List Bool) (v : Nat) (r : List Nat) (s : List Nat) (b' : List Bool) (h : vis A k b [] v = (b', s)) : ringsT A k b (v :: r) = if 0 < s.length then s :: ringsT A k b' r else ringsT A k b' r := by
  rw [ringsT, h]
theorem mem_lens {L : List (List Nat)} {x : List Nat} (h : x ∈ L) : x.length ≤ (L.map List.length).sum := by
  induction L with
  | nil => simp at h
  | cons a r ih =>
    rw [List.map_cons, List.sum_cons]
    rcases List.mem_cons.1 h with rfl | h
    · omega
    · have := ih h; omega
theorem turnT_lens {A : List (List Nat)} {n : Nat} (hA : ∀ x y, x < n → y ∈ row A x → y < n) : ((turnT A n).map List.length).sum = (revK A n).length := by
  unfold turnT
  refine lens_adj n _ fun e he => ?_
  obtain ⟨a, b⟩ := e
  rw [revK_mem] at he
  exact hA b a he.1 he.2
theorem turnT_lt {A : List (List Nat)} {n x y : Nat} (hA : ∀ x y, x < n → y ∈ row A x → y < n) (h : y ∈ row (turnT A n) x) : y < n := by
  unfold turnT at h
  rw [row_adjT] at h
  · exact (revK_mem.1 h).1
  · rintro ⟨a, b⟩ he
    rw [revK_mem] at he
    exact hA b a he.1 he.2
/-- The order, as far as the nodes below i. -/
def ordK (T : List (List Nat)) (n i : Nat) : List Bool × List Nat := visL T (n + 1) (List.replicate n false, []) (List.range i)
theorem ordK_succ (T : List (List Nat)) (n i : Nat) : ordK T n (i + 1) = vis T (n + 1) (ordK T n i).1 (ordK T n i).2 i := by
  unfold ordK; rw [List.range_succ, visL_snoc]
theorem ordK_facts (T : List (List Nat)) (n i : Nat) : (ordK T n i).1.length = n ∧ (ordK T n i).1.count false + (ordK T n i).2.length = n := by
  have hc : (List.replicate n false).count false < n + 1 := by rw [List.count_replicate_self]; omega
  obtain ⟨s, b', e, f⟩ := visL_from T (n + 1) (List.range i) (List.replicate n false) [] hc
  unfold ordK
  rw [e]
  have h1 := f.gone.len
  have h2 := f.gone.fewer
  rw [List.length_replicate] at h1
  rw [List.count_replicate_self] at h2
  exact ⟨h1, by simpa using h2⟩
/-- What the rings' iterator hands out. -/
def ringV (base : Nat) (rs : List (List Nat)) (k : Nat) (vs : Array Value) (W : World) : Prop := ∃ s A c, rs[k]? = some s ∧ s ≠ [] ∧ vs = #[.slice A s.length c] ∧ OI base W (.slice A s.length c) s
def ringR (bx rb lim R n : Nat) (rows : List RX) (W : World) : Prop := Boxed W bx 44 (.slice (some ⟨R, 0, none⟩) n n) ∧ RowsM rb lim R rows W

theorem ordK_lt (T : List (List Nat)) (n i : Nat) : ∀ x ∈ (ordK T n i).2, x < n := by
  have hc : (List.replicate n false).count false < n + 1 := by rw [List.count_replicate_self]; omega
  obtain ⟨s, b', e, f⟩ := visL_from T (n + 1) (List.range i) (List.replicate n false) [] hc
  unfold ordK
  rw [e]
  intro x hx
  have := f.gone.new x (by simpa using hx)
  rw [been_new] at this; simpa using this
theorem round_any {m m' l : Nat} {P : Program} {f : FuncId} {tmps : Array Value} {assign body : Code} {w : World} {R : Ending → World → Prop} (h : RoundIn Fence.wide m P l f tmps assign body w R) : RoundIn Fence.wide m' P l f tmps assign body w R :=
  ⟨h.1, fun c cs _ => h.2 c cs (by simp [Fence.room, Fence.wide])⟩
theorem wide_round_in {n m l l2 : Nat} {P : Program} {f : FuncId} {tmps : Array Value} {assign body : Code} {w : World} {R R' : Ending → World → Prop} (h : RoundIn Fence.wide m P l f tmps assign body w R) (hr : ∀ e w', R e w' → R' e w') :
    ((Fence.wide.inRound l2).depth.isSome = true → 1 ≤ n) ∧ RoundIn (Fence.wide.inRound l2) m P l f tmps assign body w R' :=
  ⟨fun h => absurd (show Fence.wide.depth.isSome = true from h) (by decide), show RoundIn Fence.wide m P l f tmps assign body w R' from h.mono hr⟩
/-- What is known between two rounds of the going back through the order. -/
structure RingI (l base lo n Bm d1 d2 d3 rb lim R bB bF bY : Nat) (rows : List RX) (A' : Option Addr) (c' : Nat) (ord : List Nat) (rs : List (List Nat)) (J : Nat → World → Prop) (k : Nat) (X : World) : Prop where
  st : ∃ kk b, kk ≤ rs.length ∧ rs.drop kk = ringsT (rowsL rows) (n + 1) b (ord.reverse.drop k) ∧ J kk X ∧ X.heap[Bm]? = some (.cells (cellsB b) 4 (0, 0)) ∧ b.length = n
  env : Env base n Bm d1 d2 d3 rb lim R rows X
  bb : Boxed X bB 30 (.slice A' ord.length c')
  at_ : IntsAt X A' ord
  bf : Boxed X bF 42 (visV d1 d2 d3)
  by_ : Boxed X bY 55 (.func (.yield l) #[] #[])
  sz : base ≤ X.heap.size
  lb : bB < base ∧ bF < base ∧ bY < base ∧ ∀ g, blkA A' = some g → g < base
  lo : lo ≤ Bm ∧ lo ≤ d1 ∧ lo ≤ d2 ∧ lo ≤ d3 ∧ lo ≤ bB ∧ lo ≤ bF ∧ lo ≤ bY ∧ ∀ g, blkA A' = some g → lo ≤ g
theorem RingI.below {l base lo n Bm d1 d2 d3 rb lim R bB bF bY : Nat} {rows : List RX} {A' : Option Addr} {c' : Nat} {ord : List Nat} {rs : List (List Nat)} {J : Nat → World → Prop} {k : Nat} {X Y : World}
    (h : RingI l base lo n Bm d1 d2 d3 rb lim R bB bF bY rows A' c' ord rs J k X) (hJ : ∀ kk, J kk X → J kk Y) (hb : Below base X Y) : RingI l base lo n Bm d1 d2 d3 rb lim R bB bF bY rows A' c' ord rs J k Y := by
  obtain ⟨kk, b, s1, s2, s3, s4, s5⟩ := h.st
  have hbm := (hb.block Bm h.env.l4).trans s4
  refine ⟨⟨kk, b, s1, s2, hJ _ s3, hbm, s5⟩, h.env.turn (TurnV.of_below hb) hbm, (hb.block _ h.lb.1).trans h.bb, h.at_.keep fun g o e _ => hb.block g (h.lb.2.2.2 g (by rw [e]; rfl)), (hb.block _ h.lb.2.1).trans h.bf, (hb.block _ h.lb.2.2.1).trans h.by_, Nat.le_trans h.sz hb.size, h.lb, h.lo⟩
/-- Behind a ring that was told, or a node where it was: the next. -/
theorem RingI.next {l base lo n Bm d1 d2 d3 rb lim R bB bF bY : Nat} {rows : List RX} {A' : Option Addr} {c' : Nat} {ord : List Nat} {rs : List (List Nat)} {J : Nat → World → Prop} {k kk : Nat} {X Y Z : World} {b : List Bool}
    (h : RingI l base lo n Bm d1 d2 d3 rb lim R bB bF bY rows A' c' ord rs J k X) (hT : TurnV X.heap.size Bm X Y) (hY : Y.heap[Bm]? = some (.cells (cellsB b) 4 (0, 0))) (hbl : b.length = n)
    (hk : kk ≤ rs.length) (hd : rs.drop kk = ringsT (rowsL rows) (n + 1) b (ord.reverse.drop (k + 1))) (hj : J kk Z) (hkp : KpB lo Y Z) (hR : RowsM rb lim R rows Z) (hXY : X.heap.size ≤ Y.heap.size) : RingI l base lo n Bm d1 d2 d3 rb lim R bB bF bY rows A' c' ord rs J (k + 1) Z := by
  obtain ⟨n1, n2, n3⟩ := h.env.ne
  have hsz := h.sz
  have same : ∀ j o, lo ≤ j → j < base → j ≠ Bm → X.heap[j]? = some o → Z.heap[j]? = some o := fun j o h1 h2 h3 h4 =>
    (hkp.same j h1 (by omega)).trans ((hT.block j (by omega) h3).trans h4)
  obtain ⟨l1, l2, l3, l4⟩ := h.lb
  obtain ⟨o1, o2, o3, o4, o5, o6, o7, o8⟩ := h.lo
  obtain ⟨bq, hbq⟩ := h.env.bn
  have nB : ∀ {j t u}, Boxed X j t u → t ≠ 4 → j ≠ Bm := fun {j t u} hb ht e => by unfold Boxed at hb; rw [e, hbq] at hb; simp at hb; exact ht hb.2.symm
  have hBm := (hkp.same Bm o1 (by have := h.env.l4; omega)).trans hY
  refine ⟨⟨kk, b, hk, hd, hj, hBm, hbl⟩, ⟨same _ _ o2 h.env.l1 n1 h.env.e1, same _ _ o3 h.env.l2 n2 h.env.e2, same _ _ o4 h.env.l3 n3 h.env.e3, hR, ⟨b, hBm⟩, h.env.lim, h.env.l1, h.env.l2, h.env.l3, h.env.l4⟩,
    same _ _ o5 l1 (nB h.bb (by decide)) h.bb, ?_, same _ _ o6 l2 (nB h.bf (by decide)) h.bf, same _ _ o7 l3 (nB h.by_ (by decide)) h.by_, by have := hkp.size; omega, h.lb, h.lo⟩
  by_cases h0 : 0 < ord.length
  · obtain ⟨g, o, e, hc⟩ := h.at_ h0
    have hgA : blkA A' = some g := by rw [e]; rfl
    have hgm : g ≠ Bm := fun e2 => by
      obtain ⟨x, hx⟩ : ∃ x, ord[0]? = some x := ⟨_, List.getElem?_eq_getElem h0⟩
      have h5 := hc 0 x hx
      subst e2
      rw [cell_of_row _ _ _ _ _ _ hbq] at h5
      unfold cellsB at h5
      rw [List.getElem?_toArray, List.getElem?_map] at h5
      obtain ⟨y, _, hy⟩ := Option.map_eq_some_iff.1 h5
      unfold vI at hy; cases hy
    refine h.at_.keep fun g' o' e' hg' => ?_
    rw [e] at e'; cases e'
    exact (hkp.same g (o8 g hgA) (by omega)).trans (hT.block g hg' hgm)
  · have : ord = [] := List.length_eq_zero_iff.1 (by omega)
    rw [this]; exact IntsAt.nil _ _

set_option maxRecDepth 100000 in
set_option maxHeartbeats 8000000 in
theorem rings1_in (fn0 l bx rb lim R n : Nat) (rows : List RX) (rs : List (List Nat)) (hrs : ringsOf (rowsL rows) (turnT (rowsL rows) n) n (n + 1) = rs) (J : Nat → World → Prop) (W : World) (hlim : lim ≤ W.heap.size) (hlen : rows.length = n) (hn : n ≤ 2000)
    (hE : ∀ x y, x < n → y ∈ row (rowsL rows) x → y < n) (hX : ∀ x ∈ rows, x.l.length ≤ 100000) (hT : (revK (rowsL rows) n).length ≤ 100000)
    (hJB : ∀ k W1 W2, J k W1 → Below W.heap.size W1 W2 → J k W2) (hR : ∀ k W1, J k W1 → ringR bx rb lim R n rows W1)
    (hY : ∀ k vs W1, k < rs.length → J k W1 → ringV W.heap.size rs k vs W1 → YieldAt Fence.wide (fn0 - 1) Try.prog l vs W1 fun e W' => e = .returned (.bool true) ∧ J (k + 1) W' ∧ KpB W.heap.size W1 W')
    (h0 : J 0 W) :
    CallsIn Fence.wide fn0 Try.prog 30 #[.func (.yield l) #[] #[], .pointer (some ⟨bx, 0, none⟩)] W fun e W' =>
      (∃ v, e = .returned v) ∧ J rs.length W' := by
  refine callsIn_of_wp_marks Try.func30 rfl trivial ?_ rfl
  simp only [Try.ntmps30, List.size_toArray, List.length_cons, List.length_nil, Nat.reduceAdd, Nat.reduceSub, Array.replicate_succ, Array.replicate_zero, List.push_toArray, List.append_toArray, List.nil_append, List.cons_append]
  obtain ⟨W1, hW1⟩ : ∃ W1, W.alloc (.cells #[.func (.yield l) #[] #[]] 55) = W1 := ⟨_, rfl⟩
  have hb1 : Below W.heap.size W W1 := by rw [← hW1]; exact (Below.refl _ _).alloc (Nat.le_refl _) _
  have hs1 : W1.heap.size = W.heap.size + 1 := by rw [← hW1]; simp
  have hj1 := hJB 0 W W1 h0 hb1
  have hr1 := hR 0 W1 hj1
  have c1 := hr1.1.cell
  have HT := Lib.hid (turned_any rb lim R rows W1 hr1.2 (by omega) n hlen hn hE hT)
  have HW1 := Lib.hid hW1
  gi_wp2
  refine wide_call HT.out ?_
  rintro e w2 ⟨R2, rows2, rfl, hM2, hL2, hB2⟩
  have HWK := Lib.hid (walk_any W1.heap.size w2.heap.size R2 n rows2 w2 hM2 (Nat.le_refl _) hn)
  have HB2W := Lib.hid hB2
  have hB2' : Below W.heap.size W w2 := hb1.trans (hB2.mono hb1.size)
  have HL2 := Lib.hid hL2
  have HB2 := Lib.hid hB2'
  clear hL2 hB2 hB2' hM2 HT c1
  gi_wp2
  refine wide_call HWK.out ?_
  rintro e w3 ⟨Bn, b1, b2, b3, rfl, hE3, hb3, hB3, hge, _, _, _⟩
  have hB3' : Below W.heap.size W w3 := HB2.out.trans (hB3.mono HB2.out.size)
  have hr3 := hR 0 w3 (hJB 0 W w3 h0 hB3')
  have c3 := hr3.1.cell
  have HB3 := Lib.hid hB3'
  have HY3 := Lib.hid (show Boxed w3 W.heap.size 55 (.func (.yield l) #[] #[]) from (((HB2W.out.trans (hB3.mono HB2W.out.size)).block _ (by omega)).trans (by rw [← HW1.out]; exact World.alloc_heap_new W _)))
  have HR3 := Lib.hid hr3
  have HE3 := Lib.hid hE3
  have HB3N := Lib.hid hb3
  have hge2 : W.heap.size < Bn := by have := HB2W.out.size; omega
  have hw3 : W.heap.size < w3.heap.size := by have := HB2W.out.size; have := hB3.size; omega
  clear HWK hb3 hB3 hB3' hr3 hE3 HB2 hge
  unfold visV
  gi_wp2
  clear c3
  have hl2 : rows2.length = n := by rw [← rowsL_length, HL2.out]; exact adjT_length _ _
  have hE2 : ∀ x y, x < n → y ∈ row (rowsL rows2) x → y < n := by rw [HL2.out]; exact fun x y _ h => turnT_lt hE h
  have hX2 : ∀ x ∈ rows2, x.l.length ≤ 100000 := fun x hx => by
    have h1 : x.l ∈ rowsL rows2 := by unfold rowsL; exact List.mem_map.2 ⟨x, hx, rfl⟩
    have h2 := mem_lens h1
    rw [HL2.out, turnT_lens hE] at h2; omega
  have HVIS := Lib.hid (visit_any n Bn b1 b2 b3 W1.heap.size w2.heap.size R2 rows2 hl2 hn hE2 hX2 (n + 1))
  rw [HL2.out] at HVIS
  obtain ⟨T, hTT⟩ : ∃ T, turnT (rowsL rows) n = T := ⟨_, rfl⟩
  rw [hTT] at HVIS
  have HTT := Lib.hid hTT
  clear hl2 hE2 hX2 hTT
  gi_loopw [3, 15] (fun s y wr => ∃ (i q : Nat) (A' : Option Addr) (c' : Nat), i ≤ n ∧ s = .slice A' q c' ∧ y = .int .i64 i ∧ Hid (q = (ordK T n i).2.length) ∧
      Hid (Env w3.heap.size n Bn b1 b2 b3 W1.heap.size w2.heap.size R2 rows2 wr ∧ wr.heap[Bn]? = some (.cells (cellsB (ordK T n i).1) 4 (0, 0)) ∧ OI w3.heap.size wr (.slice A' (ordK T n i).2.length c') (ordK T n i).2 ∧ TurnV w3.heap.size Bn w3 wr ∧ w3.heap.size ≤ wr.heap.size)) (fun _ y _ => n - (intOf y).toNat)
  case atStart => exact ⟨0, 0, none, 0, Nat.zero_le _, rfl, rfl, rfl, HE3.out, HB3N.out, OI.nil _ _, TurnV.refl _ _ _, Nat.le_refl _⟩
  case round =>
    obtain ⟨i, q, A', c', hi, rfl, rfl, HQ, HS⟩ := hrel
    by_cases h2 : i < n
    · obtain ⟨f1, f2⟩ := ordK_facts T n i
      have HC := Lib.hid (HVIS.out w3.heap.size (ordK T n i).1 (ordK T n i).2 A' c' i wr HS.out.1 HS.out.2.1 f1 HS.out.2.2.1 HS.out.2.2.2.2 h2 (by omega) (by omega))
      rw [← HQ.out] at HC
      have eg := enters_of (P := Try.prog) Try.func29 (by kernel_rfl) rfl
      have k2 : (i : Int) < (n : Int) := by omega
      clear f1 f2
      gi_wp2
      refine wide_call HC.out ?_
      rintro e w4 ⟨A2, c2, rfl, hO2, hB2, hT2, hS2⟩
      rw [← ordK_succ] at hO2 hB2
      have HO2 := Lib.hid hO2
      have HB2 := Lib.hid hB2
      have HT2 := Lib.hid hT2
      obtain ⟨q2, hq2⟩ : ∃ q2, (vis T (n + 1) (ordK T n i).1 (ordK T n i).2 i).2.length = q2 := ⟨_, rfl⟩
      rw [hq2]
      have HQ2 := Lib.hid hq2
      clear hO2 hB2 hT2 hq2 HC
      gi_wp2
      exact ⟨⟨i + 1, q2, A2, c2, by omega, rfl, by go_num, by rw [ordK_succ]; exact HQ2.out.symm, HS.out.1.turn HT2.out HB2.out, HB2.out, by rw [ordK_succ] at *; exact HO2.out, HS.out.2.2.2.1.trans HT2.out, hS2⟩, by simp only [intOf]; omega⟩
    · obtain rfl : i = n := by omega
      have hB6 : Below W.heap.size W wr := HB3.out.trans (HS.out.2.2.2.1.below (Nat.le_of_lt hge2) HS.out.1.l4)
      have hj6 := hJB 0 W wr h0 hB6
      have hr6 := hR 0 wr hj6
      have c6 := hr6.1.cell
      have HW6 := Lib.hid (walk_any rb lim R i rows wr hr6.2 (by have := hB6.size; omega) hn)
      have HB6 := Lib.hid hB6
      clear hB6 hj6 hr6
      gi_wp2
      refine wide_call HW6.out ?_
      rintro e w7 ⟨Bm, d1, d2, d3, rfl, hE7, hb7, hB7, g7, g71, g72, g73⟩
      obtain ⟨⟨bo, ord⟩, hbo⟩ : ∃ p, ordK T i i = p := ⟨_, rfl⟩
      have HQO := Lib.hid (show q = ord.length by rw [HQ.out, hbo])
      have hrs2 : rs.drop 0 = ringsT (rowsL rows) (i + 1) (List.replicate i false) (ord.reverse.drop 0) := by
        rw [List.drop_zero, List.drop_zero, ← hrs]
        unfold ringsOf orderT
        rw [HTT.out]
        show ringsT _ _ _ (ordK T i i).2.reverse = _
        rw [hbo]
      have HRS := Lib.hid hrs2
      clear hrs2
      have hYm : W.heap.size ≠ Bm := by have := HS.out.2.2.2.2; omega
      have HE7 := Lib.hid hE7
      have HB7N := Lib.hid hb7
      have HB7 := Lib.hid hB7
      clear hE7 hb7 hB7 c6 HW6
      unfold visV
      gi_wp2_with (refine wide_call (backI_any _ _ _ _) ?_; rintro e w' ⟨rfl, rfl⟩)
      obtain ⟨W8, hW8⟩ : ∃ W8, (w7.alloc (.cells #[visV d1 d2 d3] 42)).alloc (.cells #[.slice A' q c'] 30) = W8 := ⟨_, rfl⟩
      have hs8 : W8.heap.size = w7.heap.size + 2 := by rw [← hW8]; simp
      have hb8 : Below w7.heap.size w7 W8 := by rw [← hW8]; exact ((Below.refl _ _).alloc (Nat.le_refl _) _).alloc (by simp) _
      have xF : Boxed W8 w7.heap.size 42 (visV d1 d2 d3) := by rw [← hW8]; exact (Boxed.new w7 _ _).alloc _
      have xB : Boxed W8 (w7.heap.size + 1) 30 (.slice A' q c') := by
        rw [← hW8]; have := Boxed.new (w7.alloc (.cells #[visV d1 d2 d3] 42)) 30 (.slice A' q c'); rw [World.size_alloc] at this; exact this
      have hs3 := HB3.out.size
      have hs6 := HS.out.2.2.2.2
      have hs7 := HB7.out.size
      have xY3 : Boxed w3 W.heap.size 55 (.func (.yield l) #[] #[]) := HY3.out
      have xY : Boxed W8 W.heap.size 55 (.func (.yield l) #[] #[]) := by
        have e1 : wr.heap[W.heap.size]? = w3.heap[W.heap.size]? := HS.out.2.2.2.1.block _ hw3 (by omega)
        exact (hb8.block _ (by omega)).trans ((HB7.out.block _ (by omega)).trans (e1.trans xY3))
      have hbq : Below wr.heap.size wr W8 := HB7.out.trans (hb8.mono HB7.out.size)
      have hbW : Below W.heap.size W W8 := HB6.out.trans (hbq.mono HB6.out.size)
      have hOo := HS.out.2.2.1
      obtain ⟨_, hia, _, _, hAg⟩ := hOo.slice
      have hj8 := hJB 0 W W8 h0 hbW
      have hord : ordK T i i = (bo, ord) := hbo
      have hI0 : RingI l W8.heap.size W.heap.size i Bm d1 d2 d3 rb lim R (w7.heap.size + 1) w7.heap.size W.heap.size rows A' c' ord rs J 0 W8 := by
        refine ⟨⟨0, List.replicate i false, Nat.zero_le _, HRS.out, hj8, (hb8.block Bm HE7.out.l4).trans HB7N.out, by simp⟩, (HE7.out.turn (TurnV.of_below hb8) ((hb8.block Bm HE7.out.l4).trans HB7N.out)).mono (by omega), ?_, ?_, xF, xY, Nat.le_refl _, ⟨by omega, by omega, by omega, fun g hg => ?_⟩, ?_⟩
        · rw [← HQO.out]; exact xB
        · have := hia.below hbq; rw [hord] at this; exact this
        · obtain ⟨_, cur, _, hgc⟩ := hAg g hg
          have := (Array.getElem?_eq_some_iff.1 hgc).1
          omega
        · have h1 := HB6.out.size
          refine ⟨by omega, by omega, by omega, by omega, by omega, by omega, Nat.le_refl _, fun g hg => ?_⟩
          have := (hAg g hg).1; omega
      have HI0 := Lib.hid hI0
      have HEV := Lib.hid (fun k X Y (hx : RingI l W8.heap.size W.heap.size i Bm d1 d2 d3 rb lim R (w7.heap.size + 1) w7.heap.size W.heap.size rows A' c' ord rs J k X) (hb : Below W8.heap.size X Y) => hx.below (fun kk hj => hJB kk X Y hj (hb.mono hbW.size)) hb)
      have HS8 := Lib.hid hbW.size
      clear hI0 hOo hia hAg hj8 hbq xY xY3 hb8 hs3 hs7
      unfold visV at hW8
      rw [hW8]
      refine wpIn_rangeListR rfl (fun h => absurd h (by decide)) (gf := 34) (lb := #[.pointer (some ⟨w7.heap.size + 1, 0, none⟩)]) rfl trivial (enters_of Try.func34 (by kernel_rfl) rfl)
        (backI_list _ (w7.heap.size + 1) A' c' ord W8 (by have := (ordK_facts T i i).2; rw [hord] at this; simp only at this; omega)) (fun _ _ => trivial) (fun _ _ _ _ _ _ _ _ => trivial) (fun r h => h.elim) (Below.refl _ _) (fun _ => rfl)
        (RingI l W8.heap.size W.heap.size i Bm d1 d2 d3 rb lim R (w7.heap.size + 1) w7.heap.size W.heap.size rows A' c' ord rs J) (fun _ _ _ => False) ?own (fun _ _ _ _ _ h _ _ => h) HI0.out (fun k X h => ⟨h.bb, h.at_⟩)
        (fun x a' _ => a' = { tmps := #[.func (.yield l) #[] #[], .pointer (some ⟨bx, 0, none⟩), .pointer (some ⟨W.heap.size, 0, none⟩), .slice A' q c', visV b1 b2 b3, u5, .pointer (some ⟨w7.heap.size, 0, none⟩), undef, .int .i64 x.2, undef, .slice (some ⟨R, 0, none⟩) i i, .slice (some ⟨R2, 0, none⟩) i i, visV b1 b2 b3, .slice (some ⟨R, 0, none⟩) i i, .int .i64 i, .int .i64 i, .bool false, u17, u18, u19, u20, u21, u22, .slice (some ⟨R, 0, none⟩) i i, visV d1 d2 d3, .slice A' q c', .func (.func 34) #[] #[.pointer (some ⟨w7.heap.size + 1, 0, none⟩)], .int .i64 x.1, .int .i64 x.2, undef, undef, undef, undef, undef, undef, undef, undef, undef, undef, undef, undef], defers := [] }) (fun _ _ _ _ _ _ hs _ _ => hs) ?assign ?body ?done ?stop
      case own =>
        rintro k X Y row hx hg hr
        refine HEV.out k X Y hx ?_
        exact ⟨hg.os, hg.tape, hg.output, hg.size, fun j hj => hg.block j (by have := hx.sz; omega) (fun e => by have := (hr j e.symm).resolve_left (fun h => h); omega)⟩
      case assign =>
        intro l2 k x X K hi hK2
        simp only [encI]
        gi_wp2
        exact hK2 _ _ (KeepsFrom.refl _ _) trivial hi rfl
      case body =>
        rintro l2 k x a' X hl2 _ hI rfl hx
        obtain ⟨kk, b, s1, s2, s3, s4, s5⟩ := hI.st
        have hxv := backX_val hx
        have hxn : x.2 < i := ordK_lt T i i x.2 (by rw [hord]; exact List.mem_reverse.1 (List.mem_of_getElem? hxv))
        have hdr : ord.reverse.drop k = x.2 :: ord.reverse.drop (k + 1) := by
          obtain ⟨h1, h2⟩ := List.getElem?_eq_some_iff.1 hxv
          rw [List.drop_eq_getElem_cons h1, h2]
        have hcnt : b.count false < i + 1 := by have := List.count_le_length (a := false) (l := b); omega
        have HC := Lib.hid (visit_any i Bm d1 d2 d3 rb lim R rows hlen hn hE hX (i + 1) X.heap.size b [] none 0 x.2 X (hI.env.mono hI.sz) s4 s5 (OI.nil _ _) (Nat.le_refl _) hxn hcnt (by simp; omega))
        have c6 := hI.bf.cell
        unfold visV at c6
        have cY0 := hI.by_
        have eg := enters_of (P := Try.prog) Try.func29 (by kernel_rfl) rfl
        obtain ⟨⟨b', s⟩, hv⟩ : ∃ p, vis (rowsL rows) (i + 1) b [] x.2 = p := ⟨_, rfl⟩
        rw [hv] at HC
        have hbl : b'.length = i := by
          obtain ⟨s', b2', e', f'⟩ := vis_from (rowsL rows) (i + 1) b [] x.2 hcnt
          rw [hv] at e'; cases e'
          exact f'.gone.len.trans s5
        rw [hdr, ringsT_split _ _ _ _ _ _ _ hv] at s2
        have hXsz := hI.sz
        have HII := Lib.hid hI
        have HS2 := Lib.hid s2
        have HS3 := Lib.hid s3
        have hm4 := hI.env.l4
        clear hx hxv hdr hcnt hv hI s2 s3 s4
        gi_wp2
        refine wide_call_in HC.out ?_
        rintro e X1 ⟨A2, c2, rfl, hO2, hB2, hT2, hS2⟩
        have hO2 : OI X.heap.size X1 (.slice A2 s.length c2) s := hO2
        have hB2 : X1.heap[Bm]? = some (.cells (cellsB b') 4 (0, 0)) := hB2
        have hB1 : Below W.heap.size X X1 := hT2.below HII.out.lo.1 (by omega)
        have hj1 := hJB kk X X1 HS3.out hB1
        have hkf : KeepsFrom W8.heap.size X X1 := ⟨hT2.size, fun j o hj ho hcells => (hT2.block j (Array.getElem?_eq_some_iff.1 ho).1 (fun e => by
          obtain ⟨bq, hbq⟩ := HII.out.env.bn
          rw [e, hbq] at ho; cases ho; simp [Obj.isCells] at hcells)).trans ho⟩
        have cY : X1.cell? ⟨W.heap.size, 0, none⟩ = some (.func (.yield l) #[] #[]) := (Boxed.turn cY0 hT2 (by have := HS8.out; omega) hYm).cell
        have HO2 := Lib.hid hO2
        have HB2 := Lib.hid hB2
        have HT2 := Lib.hid hT2
        have HJ1 := Lib.hid hj1
        have HKF := Lib.hid hkf
        clear hO2 hB2 hT2 hB1 hj1 hkf cY0 c6 HC
        by_cases hs0 : s = []
        · subst hs0
          rw [show ((b', []) : List Bool × List Nat).2.length = 0 from rfl]
          have hnx : RingI l W8.heap.size W.heap.size i Bm d1 d2 d3 rb lim R (w7.heap.size + 1) w7.heap.size W.heap.size rows A' c' ord rs J (k + 1) X1 :=
            RingI.next HII.out HT2.out HB2.out hbl s1 (by have := HS2.out; simpa using this) HJ1.out (KpB.refl _ _) (hR kk X1 HJ1.out).2 hS2
          have HNX := Lib.hid hnx
          clear hnx
          gi_wp2
          refine ⟨fun _ h => (by cases h), ?_⟩
          gi_wp2
          exact ⟨HKF.out, trivial, HNX.out⟩
        · have hpos : 0 < s.length := List.length_pos_iff.2 hs0
          have hs2 := HS2.out
          rw [if_pos hpos] at hs2
          have hkl : kk < rs.length := by
            rcases Nat.lt_or_ge kk rs.length with h | h
            · exact h
            · rw [List.drop_of_length_le h] at hs2; cases hs2
          have hget : rs[kk]? = some s := by rw [← List.head?_drop, hs2]; rfl
          have hd1 : rs.drop (kk + 1) = ringsT (rowsL rows) (i + 1) b' (ord.reverse.drop (k + 1)) := by rw [← List.drop_drop, hs2]; rfl
          obtain ⟨fn, tmps, assign, body, hy, hR1⟩ := hY kk #[.slice A2 s.length c2] X1 hkl HJ1.out ⟨s, A2, c2, hget, hs0, rfl, HO2.out.mono (by have := HS8.out; omega)⟩
          have HR1 := Lib.hid hR1
          have HD1 := Lib.hid hd1
          obtain ⟨m, hm⟩ : ∃ m, s.length = m := ⟨_, rfl⟩
          have hsl : ((b', s) : List Bool × List Nat).2.length = m := hm
          rw [hm] at hy hpos
          rw [hsl]
          have kp : (0 : Int) < (m : Int) := by omega
          clear hR1 hd1 hs2 hget hs0 hm hsl
          gi_wp2
          refine wide_round_in (round_any HR1.out) ?_
          rintro e X2 ⟨rfl, hJ2, hK2⟩
          have hnx : RingI l W8.heap.size W.heap.size i Bm d1 d2 d3 rb lim R (w7.heap.size + 1) w7.heap.size W.heap.size rows A' c' ord rs J (k + 1) X2 :=
            RingI.next HII.out HT2.out HB2.out hbl (by omega) HD1.out hJ2 hK2 (hR (kk + 1) X2 hJ2).2 hS2
          have HNX := Lib.hid hnx
          have HK2 := Lib.hid hK2
          clear hnx hK2 hJ2 hy
          gi_wp2
          refine ⟨⟨Nat.le_trans HKF.out.size HK2.out.size, fun j o hj ho hcells => ?_⟩, trivial, HNX.out⟩
          have h1 := HKF.out.same j o hj ho hcells
          exact (HK2.out.same j (by have := HS8.out; omega) (Array.getElem?_eq_some_iff.1 h1).1).trans h1
      case done =>
        rintro D X hD hI hdef
        obtain ⟨kk, b, s1, s2, s3, s4, s5⟩ := hI.st
        have hkk : kk = rs.length := by
          rw [backX_length, List.drop_of_length_le (i := ord.length) (by rw [List.length_reverse]; exact Nat.le_refl _)] at s2
          have := congrArg List.length s2
          rw [List.length_drop, ringsT, List.length_nil] at this
          omega
        subst hkk
        gi_wp2
        refine ⟨by simp, .inl ⟨_, _, rfl, run_takeDeferred hdef, ?_⟩⟩
        refine ⟨.tuple #[], by simp [results, Try.f30, go_sem], ⟨_, rfl⟩, ?_⟩
        have hg := grownBy_putObj' X D (.deferred none)
        exact hJB _ _ _ s3 ⟨hg.os, hg.tape, hg.output, hg.size, fun j hj => hg.block j (by have := hI.sz; have := HS8.out; omega) (fun e => by cases e; have := HS8.out; omega)⟩
      case stop =>
        intro D c k X hD hk hI
        exact hI.elim
end Go.Proofs.Yteigepblocbnlaa.Gp
