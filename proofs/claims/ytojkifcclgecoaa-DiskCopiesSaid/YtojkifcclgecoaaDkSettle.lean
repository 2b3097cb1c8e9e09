/-
  settle: what is pending is done to what lasts.
-/
import Derived.Test.YtojkifcclgecoaaDkStep
namespace Go.Proofs.Ytojkifcclgecoaa.Dk
open Go Go.RowKit Go.Shelf Go.Proofs

/-- What lasts is other bytes, since w0. -/
def LastW (base : Nat) (who : Nat → Nat) (w0 : World) (T ga cap i : Nat) (L : List AX) (x : AX) (b : Bs) (w : World) : Prop :=
  ∃ who' lv, AreasAt base who' w T ga cap (L.set i { x with lv := lv, l := b }) ∧ Turn (T + 1) (T + 2 + 3 * L.length) who w0 who' w ∧ Fresh who' w
theorem LastW.drew {base : Nat} {who : Nat → Nat} {w0 w : World} {T ga cap i : Nat} {L : List AX} {x : AX} {b : Bs} (h : LastW base who w0 T ga cap i L x b w) : LastW base who w0 T ga cap i L x b w.drew := by
  obtain ⟨who', lv, h1, h2, h3⟩ := h
  exact ⟨who', lv, h1.drew, ⟨h2.os, h2.tape, h2.output, h2.size, h2.block, h2.same⟩, h3⟩
theorem LastW.first {base : Nat} {who : Nat → Nat} {w : World} {T ga cap i : Nat} {L : List AX} {x : AX} (h : AreasAt base who w T ga cap L) (hx : L[i]? = some x) (hf : Fresh who w) : LastW base who w T ga cap i L x x.l w :=
  ⟨who, x.lv, by rw [List.set_eq_of_getElem? L i hx]; exact h, Turn.refl _ _ _ _, hf⟩
theorem LastW.put {base : Nat} {who : Nat → Nat} {w0 w w1 : World} {T ga cap i : Nat} {L : List AX} {x : AX} {b b' : Bs} {who1 : Nat → Nat} {lv v' : Value} (hi : i < L.length)
    (h1 : AreasAt base who1 w T ga cap (L.set i { x with lv := lv, l := b })) (h2 : Turn (T + 1) (T + 2 + 3 * L.length) who w0 who1 w) (h3 : Fresh who1 w)
    (hg : w.grownBy w1 lv.ownBlock) (hb : v'.ownBlock = lv.ownBlock ∨ ∀ g, v'.ownBlock = some g → w.heap.size ≤ g) (ho : OB base w1 v' b') : LastW base who w0 T ga cap i L x b' (w1.setCell ⟨ga, 3 * i + 1, none⟩ v') := by
  obtain ⟨who2, h4, h5, h6⟩ := h1.putL (List.getElem?_set_self hi) h3 hg hb ho
  rw [List.set_set] at h4
  rw [List.length_set] at h5
  exact ⟨who2, v', h4, h2.trans h5, h6⟩
theorem LastW.base {base : Nat} {who : Nat → Nat} {w0 w : World} {T ga cap i : Nat} {L : List AX} {x : AX} {b : Bs} (h : LastW base who w0 T ga cap i L x b w) (hb : base ≤ w0.heap.size) : base ≤ w.heap.size := by
  obtain ⟨_, _, _, h2, _⟩ := h
  exact Nat.le_trans hb h2.size

theorem gdoL (base : Nat) (who : Nat → Nat) (w0 w : World) (T ga cap i : Nat) (L : List AX) (x : AX) (l : Bs) (A : Option Addr) (c n k : Nat) (b : Bs) (hi : i < L.length) (h : LastW base who w0 T ga cap i L x l w) (hs : SlAt w A c b) (hn : b.length = n) (hk : k ≤ n) (hl : l.length + b.length ≤ 100000000) (hb : base ≤ w0.heap.size) :
    Calls Try.prog 108 #[.slice A n c, .pointer (some ⟨ga, 3 * i + 1, none⟩), .int .i64 (k : Int)] w fun e w' => e = .returned (.tuple #[]) ∧ LastW base who w0 T ga cap i L x (l ++ b.take k) w' := by
  have hbs := h.base hb
  obtain ⟨who1, lv, h1, h2, h3⟩ := h
  have hx := List.getElem?_set_self (a := { x with lv := lv, l := l }) hi
  have ha := h1.each i _ hx
  refine (gdo_any base ga (3 * i + 1) lv l A c n k b w (h1.cells hx).2.1 (h1.free _) ha.l hs hn hk (fun e => by have := ha.wl ga e; have := h1.wg; omega) hl hbs).mono ?_
  rintro e w' ⟨rfl, v', w1, ho, hg, hk, rfl⟩
  exact ⟨rfl, LastW.put hi h1 h2 h3 hg hk ho⟩
theorem kdoL (base : Nat) (who : Nat → Nat) (w0 w : World) (T ga cap i : Nat) (L : List AX) (x : AX) (l : Bs) (n m : Nat) (hm : 0 < m) (hi : i < L.length) (h : LastW base who w0 T ga cap i L x l w) (hn : n ≤ l.length) :
    Calls Try.prog 110 #[.int .i64 (n : Int), .pointer (some ⟨ga, 3 * i + 1, none⟩), .int .i64 (m : Int)] w fun e w' => e = .returned (.tuple #[]) ∧ LastW base who w0 T ga cap i L x (l.take n) w' := by
  obtain ⟨who1, lv, h1, h2, h3⟩ := h
  have hx := List.getElem?_set_self (a := { x with lv := lv, l := l }) hi
  have ha := h1.each i _ hx
  have hc := (h1.cells hx).2.1
  have ho : OB base w lv l := ha.l
  obtain ⟨A, c, hv, hA1, hA2, hA3, hA4⟩ := row_slice ho
  subst hv
  refine (kdo_any ga (3 * i + 1) l.length n c m A w hm hc (h1.free _) hn hA1 hA2 (fun g o s e => (hA4 g o s e).2.1) hA3).mono ?_
  rintro e w' ⟨rfl, rfl⟩
  exact ⟨rfl, LastW.put hi h1 h2 h3 ⟨rfl, rfl, rfl, Nat.le_refl _, fun _ _ _ => rfl⟩ (.inl (by cases A <;> rfl)) (ho.cut hn)⟩

theorem stsX_next {p : List SX} {j : Nat} {s : SX} (h : p[j]? = some s) : stsX (p.take (j + 1)) = stsX (p.take j) ++ s.sts := by
  unfold stsX
  rw [List.take_add_one, h, List.flatMap_append]
  simp
theorem stsX_split (p : List SX) (j : Nat) : stsX p = stsX (p.take j) ++ stsX (p.drop j) := by
  unfold stsX
  rw [← List.flatMap_append, List.take_append_drop]
theorem stsX_at {p : List SX} {j : Nat} {s : SX} (h : p[j]? = some s) : stsX p = stsX (p.take j) ++ (s.sts ++ stsX (p.drop (j + 1))) := by
  rw [stsX_split p (j + 1), stsX_next h, List.append_assoc]
theorem LastW.eq {base : Nat} {who : Nat → Nat} {w0 w : World} {T ga cap i : Nat} {L : List AX} {x : AX} {b b' : Bs} (h : LastW base who w0 T ga cap i L x b w) (e : b = b') : LastW base who w0 T ga cap i L x b' w := e ▸ h
def SettleW (base : Nat) (who : Nat → Nat) (w0 : World) (T ga cap i : Nat) (L : List AX) (x : AX) (b : Bs) (w : World) : Prop :=
  ∃ who' lv, AreasAt base who' w T ga cap (L.set i { x with lv := lv, l := b, pv := .slice none 0 0, p := [] }) ∧ Turn (T + 1) (T + 2 + 3 * L.length) who w0 who' w ∧ Fresh who' w
theorem LastW.none {base : Nat} {who : Nat → Nat} {w0 w : World} {T ga cap i : Nat} {L : List AX} {x : AX} {b : Bs} (h : LastW base who w0 T ga cap i L x b w) (hi : i < L.length) :
    w.frozen? ⟨ga, 3 * i + 2, Option.none⟩ = false ∧ w.cell? ⟨ga, 3 * i + 2, Option.none⟩ = some x.pv ∧ SettleW base who w0 T ga cap i L x b (w.setCell ⟨ga, 3 * i + 2, Option.none⟩ (.slice Option.none 0 0)) := by
  obtain ⟨who1, lv, h1, h2, h3⟩ := h
  have hx := List.getElem?_set_self (a := { x with lv := lv, l := b }) hi
  obtain ⟨who2, h4, h5, h6⟩ := h1.putP (v' := .slice Option.none 0 0) (p := []) hx h3 ⟨rfl, rfl, rfl, Nat.le_refl _, fun _ _ _ => rfl⟩ (.inr (fun g e => by cases e)) (World.ownsRow_nil _ _ _ _) (fun s hs => by cases hs)
  rw [List.set_set] at h4
  rw [List.length_set] at h5
  exact ⟨h1.free _, (h1.cells hx).2.2, who2, lv, h4, h2.trans h5, h6⟩
theorem LastW.step {base : Nat} {who : Nat → Nat} {w0 w : World} {T ga cap i : Nat} {L : List AX} {x : AX} {b : Bs} (h : LastW base who w0 T ga cap i L x b w) (hi : i < L.length) {j : Nat} {s : SX} (hs : x.p[j]? = some s) :
    ∃ g c, x.pv = .slice (some ⟨g, 0, Option.none⟩) x.p.length c ∧ w.cell? ⟨g, 0 + j, Option.none⟩ = some s.v ∧ (∃ who', s.at_ who' w) := by
  obtain ⟨who1, lv, h1, h2, h3⟩ := h
  have ha := h1.each i _ (List.getElem?_set_self (a := { x with lv := lv, l := b }) hi)
  have hp : w.ownsRow base 115 1 x.pv x.p.length (x.p.map SX.v) := ha.p
  have hj := (List.getElem?_eq_some_iff.1 hs).1
  obtain ⟨A, c, hv, hA1, hA2, hA3, hA4⟩ := row_slice hp
  cases A with
  | none => have := hA3 rfl; omega
  | some a =>
    obtain ⟨g, o, q⟩ := a
    obtain ⟨rfl, rfl, h5⟩ := hA4 g o q rfl
    have h6 := World.ownsRow.cells hp (g := g) h5 j s.v (by rw [List.getElem?_map, hs]; rfl)
    rw [Go.WideShapes.add_plain] at h6
    exact ⟨g, c, hv, h6, who1, ha.steps s (List.mem_of_getElem? hs)⟩
theorem LastW.pv {base : Nat} {who : Nat → Nat} {w0 w : World} {T ga cap i : Nat} {L : List AX} {x : AX} {b : Bs} (h : LastW base who w0 T ga cap i L x b w) (hi : i < L.length) : ∃ A c, x.pv = .slice A x.p.length c ∧ x.p.length ≤ c ∧ c ≤ maxLen := by
  obtain ⟨who1, lv, h1, h2, h3⟩ := h
  have ha := h1.each i _ (List.getElem?_set_self (a := { x with lv := lv, l := b }) hi)
  obtain ⟨A, c, hv, h4, h5, _⟩ := row_slice ha.p
  exact ⟨A, c, hv, h4, h5⟩
theorem take_sts {l : Bs} {p : List SX} {k j : Nat} {s : SX} (hs : p[j]? = some s) (hj : (stsX (p.take j)).length ≤ k) (hk : k < (stsX (p.take j)).length + s.sts.length) : runS l ((stsX p).take k) = runS (runS l (stsX (p.take j))) (s.sts.take (k - (stsX (p.take j)).length)) := by
  rw [stsX_at hs, List.take_append, List.take_of_length_le hj, runS_append, List.take_append_of_le_length (by omega)]

set_option maxRecDepth 100000 in
set_option maxHeartbeats 8000000 in
theorem settle_any (base : Nat) (who : Nat → Nat) (w : World) (T ga cap i k : Nat) (L : List AX) (x : AX) (h : AreasAt base who w T ga cap L) (hx : L[i]? = some x) (hf : Fresh who w) (hok : okS x.l (stsX x.p)) (hl : x.l.length + (stsX x.p).length ≤ 10000000) (hpl : x.p.length ≤ 10000000) (hk : k ≤ 9223372036854775807) (hb : base ≤ w.heap.size) :
    Calls Try.prog 72 #[.pointer (some ⟨ga, 3 * i, none⟩), .int .i64 (k : Int)] w fun e w' => e = .returned (.tuple #[]) ∧ SettleW base who w T ga cap i L x (runS x.l ((stsX x.p).take k)) w' := by
  have hi := (List.getElem?_eq_some_iff.1 hx).1
  have hc2 := (h.cells hx).2.2
  have HL0 := Lib.hid (LastW.first h hx hf)
  obtain ⟨Ap, cp, hpv, hp1, hp2⟩ := HL0.out.pv hi
  unfold maxLen at hp2
  rw [hpv] at hc2
  have HPV := Lib.hid hpv
  have m1 := m_gcount
  have m2 := m_gdo
  have m3 := n_g
  have m4 := m_kcount
  have m5 := m_kdo
  have m6 := n_k
  clear hpv h
  go_enter Try.func72, Try.ntmps72
  go_wp2_with fail
  go_step3
  go_wp2_with fail
  go_step3
  go_wp2_with fail
  go_loopw [1, 12] (fun q y wr => ∃ (j : Nat), j ≤ x.p.length ∧ (stsX (x.p.take j)).length ≤ k ∧ q = .int .i64 ((k - (stsX (x.p.take j)).length : Nat) : Int) ∧ y = .int .i64 j ∧ Hid (LastW base who w T ga cap i L x (runS x.l (stsX (x.p.take j))) wr)) (fun _ y _ => x.p.length - (intOf y).toNat)
  case atStart => exact ⟨0, Nat.zero_le _, Nat.zero_le _, rfl, rfl, HL0⟩
  case round =>
    obtain ⟨j, hj, hjk, rfl, rfl, HL⟩ := hrel
    by_cases h1 : j < x.p.length
    · obtain ⟨s, hs⟩ : ∃ s, x.p[j]? = some s := ⟨_, List.getElem?_eq_getElem h1⟩
      obtain ⟨g, cg, hpv, hcell, who', hat⟩ := HL.out.step hi hs
      rw [HPV.out] at hpv
      cases hpv
      have k1 : (j : Int) < (x.p.length : Int) := by omega
      have hnx := stsX_next hs
      have htk := @take_sts x.l x.p k j s hs hjk
      have hok2 := (okS_append (stsX (x.p.take j)) (s.sts ++ stsX (x.p.drop (j + 1))) x.l).1 (by rw [← stsX_at hs]; exact hok)
      have hlen : (stsX (x.p.take j)).length + s.sts.length ≤ (stsX x.p).length := by rw [stsX_at hs, List.length_append, List.length_append]; omega
      have hrl := runS_length (stsX (x.p.take j)) x.l
      cases s with
      | grow A c b =>
        obtain ⟨hsl, _⟩ := hat
        obtain ⟨n, hn⟩ : ∃ n, b.length = n := ⟨_, rfl⟩
        have hcell2 : wr.cell? ⟨g, j, none⟩ = some (.iface 94 (.slice A n c)) := by rw [← hn, ← Nat.zero_add j]; exact hcell
        replace hcell := hcell2
        clear hcell2
        have HNX := Lib.hid hnx
        have HTK := Lib.hid htk
        have HOK := Lib.hid hok2.2
        have HLE := Lib.hid hlen
        have HRL := Lib.hid hrl
        clear hnx htk hok2 hlen hrl
        obtain ⟨K', hK'⟩ : ∃ K', k - (stsX (x.p.take j)).length = K' := ⟨_, rfl⟩
        rw [hK'] at HTK ⊢
        have HK := Lib.hid hK'
        have hK63 : (K' : Int) ≤ 9223372036854775807 := by omega
        clear hK'
        have hstl : (SX.grow A c b).sts.length = n := by show (b.map DSt.byte).length = n; rw [List.length_map, hn]
        have hsz : (runS x.l (stsX (x.p.take j))).length + b.length ≤ 100000000 := by have h1 := HRL.out; have h2 := HLE.out; omega
        by_cases h2 : K' < n
        · have HD := Lib.hid (gdoL base who w wr.drew T ga cap i L x _ A c n K' b hi HL.out.drew (hsl.below (Below.refl _ _).drew) hn (by omega) hsz hb)
          have HE := Lib.hid (show runS x.l ((stsX x.p).take k) = runS x.l (stsX (x.p.take j)) ++ b.take K' from (HTK.out (by have := HK.out; omega)).trans (by rw [show (SX.grow A c b).sts = b.map DSt.byte from rfl, ← List.map_take, runS_bytes]))
          have h3 : (K' : Int) < (n : Int) := by omega
          clear HL hsl hn hstl hsz
          go_wp2_with fail
          refine (gcount_any A n c _).mono ?_
          rintro e wq ⟨rfl, rfl⟩
          go_wp2_with fail
          refine wp_region_held_drew (S := (fun w' => AnyA w' ∧ AnyB w')) (by kernel_rfl) ⟨trivial, trivial⟩ (fun hHeld => ?_)
          refine wpAnyH_take (i := 0) (v := ?va0) rfl (by kernel_rfl) (by kernel_rfl) (by kernel_rfl) (fun _ _ _ h => h) (Or.inl ⟨by rfl, ?ya0⟩) (by assumption) ?ra0
          case ya0 =>
            intro w hSw
            (try dsimp only at hSw)
            go_simp
            first | done | with_reducible rfl
          try simp only [Act.put, List.getElem_toArray, List.getElem_cons_zero, List.setIfInBounds_toArray, List.set_cons_zero, List.set_cons_succ]
          refine wpAnyH_take (i := 1) (v := ?va1) rfl (by kernel_rfl) (by kernel_rfl) (by kernel_rfl) (fun _ _ _ h => h) (Or.inl ⟨by rfl, ?ya1⟩) (by assumption) ?ra1
          case ya1 =>
            intro w hSw
            (try dsimp only at hSw)
            go_simp
            first | done | with_reducible rfl
          try simp only [Act.put, List.getElem_toArray, List.getElem_cons_zero, List.getElem_cons_succ, List.setIfInBounds_toArray, List.set_cons_zero, List.set_cons_succ]
          refine wpAnyH_take (i := 2) (v := ?va2) rfl (by kernel_rfl) (by kernel_rfl) (by kernel_rfl) (fun _ _ _ h => h) (Or.inl ⟨by rfl, ?ya2⟩) (by assumption) ?ra2
          case ya2 =>
            intro w hSw
            (try dsimp only at hSw)
            go_simp
            first | done | with_reducible rfl
          try simp only [Act.put, List.getElem_toArray, List.getElem_cons_zero, List.getElem_cons_succ, List.setIfInBounds_toArray, List.set_cons_zero, List.set_cons_succ]
          refine wpAnyH_take (i := 3) (v := ?va3) rfl (by kernel_rfl) (by kernel_rfl) (by kernel_rfl) (fun _ _ _ h => h) (Or.inl ⟨by rfl, ?ya3⟩) (by assumption) ?ra3
          case ya3 =>
            intro w hSw
            (try dsimp only at hSw)
            go_simp
            first | done | with_reducible rfl
          try simp only [Act.put, List.getElem_toArray, List.getElem_cons_zero, List.getElem_cons_succ, List.setIfInBounds_toArray, List.set_cons_zero, List.set_cons_succ]
          refine wpAnyH_take (i := 4) (v := ?va4) rfl (by kernel_rfl) (by kernel_rfl) (by kernel_rfl) (fun _ _ _ h => h) (Or.inl ⟨by rfl, ?ya4⟩) (by assumption) ?ra4
          case ya4 =>
            intro w hSw
            (try dsimp only at hSw)
            go_simp
            first | done | with_reducible rfl
          try simp only [Act.put, List.getElem_toArray, List.getElem_cons_zero, List.getElem_cons_succ, List.setIfInBounds_toArray, List.set_cons_zero, List.set_cons_succ]
          refine wpAnyH_take (i := 5) (v := ?va5) rfl (by kernel_rfl) (by kernel_rfl) (by kernel_rfl) (fun _ _ _ h => h) (Or.inl ⟨by rfl, ?ya5⟩) (by assumption) ?ra5
          case ya5 =>
            intro w hSw
            (try dsimp only at hSw)
            go_simp
            first | done | with_reducible rfl
          try simp only [Act.put, List.getElem_toArray, List.getElem_cons_zero, List.getElem_cons_succ, List.setIfInBounds_toArray, List.set_cons_zero, List.set_cons_succ]
          refine wpAnyH_take (i := 6) (v := ?va6) rfl (by kernel_rfl) (by kernel_rfl) (by kernel_rfl) (fun _ _ _ h => h) (Or.inl ⟨by rfl, ?ya6⟩) (by assumption) ?ra6
          case ya6 =>
            intro w hSw
            (try dsimp only at hSw)
            go_simp
            first | done | with_reducible rfl
          try simp only [Act.put, List.getElem_toArray, List.getElem_cons_zero, List.getElem_cons_succ, List.setIfInBounds_toArray, List.set_cons_zero, List.set_cons_succ]
          refine wpAnyH_take (i := 7) (v := ?va7) rfl (by kernel_rfl) (by kernel_rfl) (by kernel_rfl) (fun _ _ _ h => h) (Or.inl ⟨by rfl, ?ya7⟩) (by assumption) ?ra7
          case ya7 =>
            intro w hSw
            (try dsimp only at hSw)
            go_simp
            first | done | with_reducible rfl
          try simp only [Act.put, List.getElem_toArray, List.getElem_cons_zero, List.getElem_cons_succ, List.setIfInBounds_toArray, List.set_cons_zero, List.set_cons_succ]
          refine wpAnyH_ready (rs := [8]) (by kernel_rfl) (by simp) ?_
          refine AllReadyH.cons rfl (fun K hK => ?_) AllReadyH.nil
          go_simp
          refine (HD.out).mono ?_
          rintro e w2 ⟨rfl, hg⟩
          have HG := Lib.hid hg
          clear hg
          go_wp2_with fail
          refine hK.out _ _ hHeld (fun hHeld => ?_)
          clear hK K
          try simp only [Act.put, List.getElem_toArray, List.getElem_cons_zero, List.getElem_cons_succ, List.setIfInBounds_toArray, List.set_cons_zero, List.set_cons_succ]
          refine wpAnyH_done (by kernel_rfl) ?_ _
          obtain ⟨f2, c2, hfin⟩ := HG.out.none hi
          have HFIN := Lib.hid hfin
          clear hfin HG
          go_wp2_with fail
          rw [Exit.noGoto_normal]
          go_wp2_with fail
          go_returns
          refine ⟨rfl, ?_⟩
          have hq := HFIN.out
          rw [HE.out]
          exact hq
        · have hle : n ≤ K' := by omega
          have HD := Lib.hid (gdoL base who w wr.drew T ga cap i L x _ A c n n b hi HL.out.drew (hsl.below (Below.refl _ _).drew) hn (Nat.le_refl _) hsz hb)
          have HE := Lib.hid (show runS x.l (stsX (x.p.take (j + 1))) = runS x.l (stsX (x.p.take j)) ++ b.take n by rw [HNX.out, runS_append, show (SX.grow A c b).sts = b.map DSt.byte from rfl, runS_bytes, List.take_of_length_le (show b.length ≤ n by omega)])
          have HF := Lib.hid (show (stsX (x.p.take (j + 1))).length = (stsX (x.p.take j)).length + n by rw [HNX.out, List.length_append, hstl])
          have h3 : (n : Int) ≤ (K' : Int) := by omega
          clear HL hsl hn hstl hsz
          go_wp2_with fail
          refine (gcount_any A n c _).mono ?_
          rintro e wq ⟨rfl, rfl⟩
          go_wp2_with fail
          refine wp_region_held_drew (S := (fun w' => AnyA w' ∧ AnyB w')) (by kernel_rfl) ⟨trivial, trivial⟩ (fun hHeld => ?_)
          refine wpAnyH_take (i := 0) (v := ?vb0) rfl (by kernel_rfl) (by kernel_rfl) (by kernel_rfl) (fun _ _ _ h => h) (Or.inl ⟨by rfl, ?yb0⟩) (by assumption) ?rb0
          case yb0 =>
            intro w hSw
            (try dsimp only at hSw)
            go_simp
            first | done | with_reducible rfl
          try simp only [Act.put, List.getElem_toArray, List.getElem_cons_zero, List.setIfInBounds_toArray, List.set_cons_zero, List.set_cons_succ]
          refine wpAnyH_take (i := 1) (v := ?vb1) rfl (by kernel_rfl) (by kernel_rfl) (by kernel_rfl) (fun _ _ _ h => h) (Or.inl ⟨by rfl, ?yb1⟩) (by assumption) ?rb1
          case yb1 =>
            intro w hSw
            (try dsimp only at hSw)
            go_simp
            first | done | with_reducible rfl
          try simp only [Act.put, List.getElem_toArray, List.getElem_cons_zero, List.getElem_cons_succ, List.setIfInBounds_toArray, List.set_cons_zero, List.set_cons_succ]
          refine wpAnyH_take (i := 2) (v := ?vb2) rfl (by kernel_rfl) (by kernel_rfl) (by kernel_rfl) (fun _ _ _ h => h) (Or.inl ⟨by rfl, ?yb2⟩) (by assumption) ?rb2
          case yb2 =>
            intro w hSw
            (try dsimp only at hSw)
            go_simp
            first | done | with_reducible rfl
          try simp only [Act.put, List.getElem_toArray, List.getElem_cons_zero, List.getElem_cons_succ, List.setIfInBounds_toArray, List.set_cons_zero, List.set_cons_succ]
          refine wpAnyH_take (i := 3) (v := ?vb3) rfl (by kernel_rfl) (by kernel_rfl) (by kernel_rfl) (fun _ _ _ h => h) (Or.inl ⟨by rfl, ?yb3⟩) (by assumption) ?rb3
          case yb3 =>
            intro w hSw
            (try dsimp only at hSw)
            go_simp
            first | done | with_reducible rfl
          try simp only [Act.put, List.getElem_toArray, List.getElem_cons_zero, List.getElem_cons_succ, List.setIfInBounds_toArray, List.set_cons_zero, List.set_cons_succ]
          refine wpAnyH_take (i := 4) (v := ?vb4) rfl (by kernel_rfl) (by kernel_rfl) (by kernel_rfl) (fun _ _ _ h => h) (Or.inl ⟨by rfl, ?yb4⟩) (by assumption) ?rb4
          case yb4 =>
            intro w hSw
            (try dsimp only at hSw)
            go_simp
            first | done | with_reducible rfl
          try simp only [Act.put, List.getElem_toArray, List.getElem_cons_zero, List.getElem_cons_succ, List.setIfInBounds_toArray, List.set_cons_zero, List.set_cons_succ]
          refine wpAnyH_take (i := 5) (v := ?vb5) rfl (by kernel_rfl) (by kernel_rfl) (by kernel_rfl) (fun _ _ _ h => h) (Or.inl ⟨by rfl, ?yb5⟩) (by assumption) ?rb5
          case yb5 =>
            intro w hSw
            (try dsimp only at hSw)
            go_simp
            first | done | with_reducible rfl
          try simp only [Act.put, List.getElem_toArray, List.getElem_cons_zero, List.getElem_cons_succ, List.setIfInBounds_toArray, List.set_cons_zero, List.set_cons_succ]
          refine wpAnyH_take (i := 6) (v := ?vb6) rfl (by kernel_rfl) (by kernel_rfl) (by kernel_rfl) (fun _ _ _ h => h) (Or.inl ⟨by rfl, ?yb6⟩) (by assumption) ?rb6
          case yb6 =>
            intro w hSw
            (try dsimp only at hSw)
            go_simp
            first | done | with_reducible rfl
          try simp only [Act.put, List.getElem_toArray, List.getElem_cons_zero, List.getElem_cons_succ, List.setIfInBounds_toArray, List.set_cons_zero, List.set_cons_succ]
          refine wpAnyH_take (i := 7) (v := ?vb7) rfl (by kernel_rfl) (by kernel_rfl) (by kernel_rfl) (fun _ _ _ h => h) (Or.inl ⟨by rfl, ?yb7⟩) (by assumption) ?rb7
          case yb7 =>
            intro w hSw
            (try dsimp only at hSw)
            go_simp
            first | done | with_reducible rfl
          try simp only [Act.put, List.getElem_toArray, List.getElem_cons_zero, List.getElem_cons_succ, List.setIfInBounds_toArray, List.set_cons_zero, List.set_cons_succ]
          refine wpAnyH_ready (rs := [8]) (by kernel_rfl) (by simp) ?_
          refine AllReadyH.cons rfl (fun K hK => ?_) AllReadyH.nil
          go_simp
          refine (HD.out).mono ?_
          rintro e w2 ⟨rfl, hg⟩
          have HG := Lib.hid hg
          clear hg
          go_wp2_with fail
          refine hK.out _ _ hHeld (fun hHeld => ?_)
          clear hK K
          try simp only [Act.put, List.getElem_toArray, List.getElem_cons_zero, List.getElem_cons_succ, List.setIfInBounds_toArray, List.set_cons_zero, List.set_cons_succ]
          refine wpAnyH_done (by kernel_rfl) ?_ _
          go_wp2_with fail
          go_roundw
          case rel => exact ⟨j + 1, by omega, by have := HF.out; have := HK.out; omega, by have := HF.out; have := HK.out; go_num, by go_num, Lib.hid (HG.out.eq HE.out.symm)⟩
          case measure => simp [intOf]; omega
      | cut n =>
        have hcell2 : wr.cell? ⟨g, j, none⟩ = some (.iface 111 (.int .i64 (n : Int))) := by rw [← Nat.zero_add j]; exact hcell
        replace hcell := hcell2
        clear hcell2
        have HNX := Lib.hid hnx
        have HTK := Lib.hid htk
        have HOK := Lib.hid hok2.2
        have HLE := Lib.hid hlen
        have HRL := Lib.hid hrl
        clear hnx htk hok2 hlen hrl
        obtain ⟨K', hK'⟩ : ∃ K', k - (stsX (x.p.take j)).length = K' := ⟨_, rfl⟩
        rw [hK'] at HTK ⊢
        have HK := Lib.hid hK'
        have hK63 : (K' : Int) ≤ 9223372036854775807 := by omega
        clear hK'
        have hnl : n ≤ (runS x.l (stsX (x.p.take j))).length := HOK.out.1
        by_cases h2 : K' < 1
        · obtain rfl : K' = 0 := by omega
          have HE := Lib.hid (show runS x.l ((stsX x.p).take k) = runS x.l (stsX (x.p.take j)) from (HTK.out (by have := HK.out; show _ < _ + 1; omega)).trans rfl)
          clear hnl
          go_wp2_with fail
          refine (kcount_any _ _).mono ?_
          rintro e wq ⟨rfl, rfl⟩
          go_wp2_with fail
          refine wp_region_held_drew (S := (fun w' => AnyA w' ∧ AnyB w')) (by kernel_rfl) ⟨trivial, trivial⟩ (fun hHeld => ?_)
          refine wpAnyH_take (i := 0) (v := ?vc0) rfl (by kernel_rfl) (by kernel_rfl) (by kernel_rfl) (fun _ _ _ h => h) (Or.inl ⟨by rfl, ?yc0⟩) (by assumption) ?rc0
          case yc0 =>
            intro w hSw
            (try dsimp only at hSw)
            go_simp
            first | done | with_reducible rfl
          try simp only [Act.put, List.getElem_toArray, List.getElem_cons_zero, List.setIfInBounds_toArray, List.set_cons_zero, List.set_cons_succ]
          refine wpAnyH_take (i := 1) (v := ?vc1) rfl (by kernel_rfl) (by kernel_rfl) (by kernel_rfl) (fun _ _ _ h => h) (Or.inl ⟨by rfl, ?yc1⟩) (by assumption) ?rc1
          case yc1 =>
            intro w hSw
            (try dsimp only at hSw)
            go_simp
            first | done | with_reducible rfl
          try simp only [Act.put, List.getElem_toArray, List.getElem_cons_zero, List.getElem_cons_succ, List.setIfInBounds_toArray, List.set_cons_zero, List.set_cons_succ]
          refine wpAnyH_take (i := 2) (v := ?vc2) rfl (by kernel_rfl) (by kernel_rfl) (by kernel_rfl) (fun _ _ _ h => h) (Or.inl ⟨by rfl, ?yc2⟩) (by assumption) ?rc2
          case yc2 =>
            intro w hSw
            (try dsimp only at hSw)
            go_simp
            first | done | with_reducible rfl
          try simp only [Act.put, List.getElem_toArray, List.getElem_cons_zero, List.getElem_cons_succ, List.setIfInBounds_toArray, List.set_cons_zero, List.set_cons_succ]
          refine wpAnyH_take (i := 3) (v := ?vc3) rfl (by kernel_rfl) (by kernel_rfl) (by kernel_rfl) (fun _ _ _ h => h) (Or.inl ⟨by rfl, ?yc3⟩) (by assumption) ?rc3
          case yc3 =>
            intro w hSw
            (try dsimp only at hSw)
            go_simp
            first | done | with_reducible rfl
          try simp only [Act.put, List.getElem_toArray, List.getElem_cons_zero, List.getElem_cons_succ, List.setIfInBounds_toArray, List.set_cons_zero, List.set_cons_succ]
          refine wpAnyH_take (i := 4) (v := ?vc4) rfl (by kernel_rfl) (by kernel_rfl) (by kernel_rfl) (fun _ _ _ h => h) (Or.inl ⟨by rfl, ?yc4⟩) (by assumption) ?rc4
          case yc4 =>
            intro w hSw
            (try dsimp only at hSw)
            go_simp
            first | done | with_reducible rfl
          try simp only [Act.put, List.getElem_toArray, List.getElem_cons_zero, List.getElem_cons_succ, List.setIfInBounds_toArray, List.set_cons_zero, List.set_cons_succ]
          refine wpAnyH_take (i := 5) (v := ?vc5) rfl (by kernel_rfl) (by kernel_rfl) (by kernel_rfl) (fun _ _ _ h => h) (Or.inl ⟨by rfl, ?yc5⟩) (by assumption) ?rc5
          case yc5 =>
            intro w hSw
            (try dsimp only at hSw)
            go_simp
            first | done | with_reducible rfl
          try simp only [Act.put, List.getElem_toArray, List.getElem_cons_zero, List.getElem_cons_succ, List.setIfInBounds_toArray, List.set_cons_zero, List.set_cons_succ]
          refine wpAnyH_take (i := 6) (v := ?vc6) rfl (by kernel_rfl) (by kernel_rfl) (by kernel_rfl) (fun _ _ _ h => h) (Or.inl ⟨by rfl, ?yc6⟩) (by assumption) ?rc6
          case yc6 =>
            intro w hSw
            (try dsimp only at hSw)
            go_simp
            first | done | with_reducible rfl
          try simp only [Act.put, List.getElem_toArray, List.getElem_cons_zero, List.getElem_cons_succ, List.setIfInBounds_toArray, List.set_cons_zero, List.set_cons_succ]
          refine wpAnyH_take (i := 7) (v := ?vc7) rfl (by kernel_rfl) (by kernel_rfl) (by kernel_rfl) (fun _ _ _ h => h) (Or.inl ⟨by rfl, ?yc7⟩) (by assumption) ?rc7
          case yc7 =>
            intro w hSw
            (try dsimp only at hSw)
            go_simp
            first | done | with_reducible rfl
          try simp only [Act.put, List.getElem_toArray, List.getElem_cons_zero, List.getElem_cons_succ, List.setIfInBounds_toArray, List.set_cons_zero, List.set_cons_succ]
          refine wpAnyH_ready (rs := [8]) (by kernel_rfl) (by simp) ?_
          refine AllReadyH.cons rfl (fun K hK => ?_) AllReadyH.nil
          go_simp
          refine (kdo_no _ _ _).mono ?_
          rintro e w2 ⟨rfl, rfl⟩
          go_wp2_with fail
          refine hK.out _ _ hHeld (fun hHeld => ?_)
          clear hK K
          try simp only [Act.put, List.getElem_toArray, List.getElem_cons_zero, List.getElem_cons_succ, List.setIfInBounds_toArray, List.set_cons_zero, List.set_cons_succ]
          refine wpAnyH_done (by kernel_rfl) ?_ _
          obtain ⟨f2, c2, hfin⟩ := HL.out.drew.none hi
          have HFIN := Lib.hid hfin
          clear hfin
          go_wp2_with fail
          rw [Exit.noGoto_normal]
          go_wp2_with fail
          go_returns
          refine ⟨rfl, ?_⟩
          have hq := HFIN.out
          rw [HE.out]
          exact hq
        · have hle : 1 ≤ K' := by omega
          have HD := Lib.hid (kdoL base who w wr.drew T ga cap i L x _ n 1 (by omega) hi HL.out.drew hnl)
          have HE := Lib.hid (show runS x.l (stsX (x.p.take (j + 1))) = (runS x.l (stsX (x.p.take j))).take n by rw [HNX.out, runS_append]; rfl)
          have HF := Lib.hid (show (stsX (x.p.take (j + 1))).length = (stsX (x.p.take j)).length + 1 by rw [HNX.out, List.length_append]; rfl)
          have h3 : (1 : Int) ≤ (K' : Int) := by omega
          clear HL hnl
          go_wp2_with fail
          refine (kcount_any _ _).mono ?_
          rintro e wq ⟨rfl, rfl⟩
          go_wp2_with fail
          refine wp_region_held_drew (S := (fun w' => AnyA w' ∧ AnyB w')) (by kernel_rfl) ⟨trivial, trivial⟩ (fun hHeld => ?_)
          refine wpAnyH_take (i := 0) (v := ?vd0) rfl (by kernel_rfl) (by kernel_rfl) (by kernel_rfl) (fun _ _ _ h => h) (Or.inl ⟨by rfl, ?yd0⟩) (by assumption) ?rd0
          case yd0 =>
            intro w hSw
            (try dsimp only at hSw)
            go_simp
            first | done | with_reducible rfl
          try simp only [Act.put, List.getElem_toArray, List.getElem_cons_zero, List.setIfInBounds_toArray, List.set_cons_zero, List.set_cons_succ]
          refine wpAnyH_take (i := 1) (v := ?vd1) rfl (by kernel_rfl) (by kernel_rfl) (by kernel_rfl) (fun _ _ _ h => h) (Or.inl ⟨by rfl, ?yd1⟩) (by assumption) ?rd1
          case yd1 =>
            intro w hSw
            (try dsimp only at hSw)
            go_simp
            first | done | with_reducible rfl
          try simp only [Act.put, List.getElem_toArray, List.getElem_cons_zero, List.getElem_cons_succ, List.setIfInBounds_toArray, List.set_cons_zero, List.set_cons_succ]
          refine wpAnyH_take (i := 2) (v := ?vd2) rfl (by kernel_rfl) (by kernel_rfl) (by kernel_rfl) (fun _ _ _ h => h) (Or.inl ⟨by rfl, ?yd2⟩) (by assumption) ?rd2
          case yd2 =>
            intro w hSw
            (try dsimp only at hSw)
            go_simp
            first | done | with_reducible rfl
          try simp only [Act.put, List.getElem_toArray, List.getElem_cons_zero, List.getElem_cons_succ, List.setIfInBounds_toArray, List.set_cons_zero, List.set_cons_succ]
          refine wpAnyH_take (i := 3) (v := ?vd3) rfl (by kernel_rfl) (by kernel_rfl) (by kernel_rfl) (fun _ _ _ h => h) (Or.inl ⟨by rfl, ?yd3⟩) (by assumption) ?rd3
          case yd3 =>
            intro w hSw
            (try dsimp only at hSw)
            go_simp
            first | done | with_reducible rfl
          try simp only [Act.put, List.getElem_toArray, List.getElem_cons_zero, List.getElem_cons_succ, List.setIfInBounds_toArray, List.set_cons_zero, List.set_cons_succ]
          refine wpAnyH_take (i := 4) (v := ?vd4) rfl (by kernel_rfl) (by kernel_rfl) (by kernel_rfl) (fun _ _ _ h => h) (Or.inl ⟨by rfl, ?yd4⟩) (by assumption) ?rd4
          case yd4 =>
            intro w hSw
            (try dsimp only at hSw)
            go_simp
            first | done | with_reducible rfl
          try simp only [Act.put, List.getElem_toArray, List.getElem_cons_zero, List.getElem_cons_succ, List.setIfInBounds_toArray, List.set_cons_zero, List.set_cons_succ]
          refine wpAnyH_take (i := 5) (v := ?vd5) rfl (by kernel_rfl) (by kernel_rfl) (by kernel_rfl) (fun _ _ _ h => h) (Or.inl ⟨by rfl, ?yd5⟩) (by assumption) ?rd5
          case yd5 =>
            intro w hSw
            (try dsimp only at hSw)
            go_simp
            first | done | with_reducible rfl
          try simp only [Act.put, List.getElem_toArray, List.getElem_cons_zero, List.getElem_cons_succ, List.setIfInBounds_toArray, List.set_cons_zero, List.set_cons_succ]
          refine wpAnyH_take (i := 6) (v := ?vd6) rfl (by kernel_rfl) (by kernel_rfl) (by kernel_rfl) (fun _ _ _ h => h) (Or.inl ⟨by rfl, ?yd6⟩) (by assumption) ?rd6
          case yd6 =>
            intro w hSw
            (try dsimp only at hSw)
            go_simp
            first | done | with_reducible rfl
          try simp only [Act.put, List.getElem_toArray, List.getElem_cons_zero, List.getElem_cons_succ, List.setIfInBounds_toArray, List.set_cons_zero, List.set_cons_succ]
          refine wpAnyH_take (i := 7) (v := ?vd7) rfl (by kernel_rfl) (by kernel_rfl) (by kernel_rfl) (fun _ _ _ h => h) (Or.inl ⟨by rfl, ?yd7⟩) (by assumption) ?rd7
          case yd7 =>
            intro w hSw
            (try dsimp only at hSw)
            go_simp
            first | done | with_reducible rfl
          try simp only [Act.put, List.getElem_toArray, List.getElem_cons_zero, List.getElem_cons_succ, List.setIfInBounds_toArray, List.set_cons_zero, List.set_cons_succ]
          refine wpAnyH_ready (rs := [8]) (by kernel_rfl) (by simp) ?_
          refine AllReadyH.cons rfl (fun K hK => ?_) AllReadyH.nil
          go_simp
          refine (HD.out).mono ?_
          rintro e w2 ⟨rfl, hg⟩
          have HG := Lib.hid hg
          clear hg
          go_wp2_with fail
          refine hK.out _ _ hHeld (fun hHeld => ?_)
          clear hK K
          try simp only [Act.put, List.getElem_toArray, List.getElem_cons_zero, List.getElem_cons_succ, List.setIfInBounds_toArray, List.set_cons_zero, List.set_cons_succ]
          refine wpAnyH_done (by kernel_rfl) ?_ _
          go_wp2_with fail
          go_roundw
          case rel => exact ⟨j + 1, by omega, by have := HF.out; have := HK.out; omega, by have := HF.out; have := HK.out; go_num, by go_num, Lib.hid (HG.out.eq HE.out.symm)⟩
          case measure => simp [intOf]; omega
    · obtain rfl : j = x.p.length := by omega
      rw [List.take_length] at *
      have HE := Lib.hid (show (stsX x.p).take k = stsX x.p from List.take_of_length_le hjk)
      obtain ⟨f2, c2, hfin⟩ := HL.out.none hi
      have HFIN := Lib.hid hfin
      clear hfin
      go_wp2_with fail
      rw [Exit.noGoto_normal]
      go_wp2_with fail
      go_returns
      refine ⟨rfl, ?_⟩
      have hq := HFIN.out
      rw [HE.out]
      exact hq
end Go.Proofs.Ytojkifcclgecoaa.Dk
