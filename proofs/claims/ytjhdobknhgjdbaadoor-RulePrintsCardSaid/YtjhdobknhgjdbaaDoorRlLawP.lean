/-
  The walk of RulePrints.
-/
import Derived.Test.YtjhdobknhgjdbaaDoorRlRefP
namespace Go.Proofs.YtjhdobknhgjdbaaDoor
open Go Go.RowKit Go.Shelf Go.Proofs
attribute [local go_sem] Oper.semAt_some

theorem long_each : ∀ (l : List RX) (x : RX), x ∈ l → x.g.size ≤ longU (rusX l) ∧ x.o.size ≤ longU (rusX l) ∧ x.n.size ≤ longU (rusX l)
  | y :: l, x, h => by
    have hc : longU (rusX (y :: l)) = 1 + y.g.size + y.o.size + y.n.size + longU (rusX l) := by
      unfold longU rusX
      rw [List.map_cons, List.map_cons, List.sum_cons]
      rw [show y.ru.g.length = y.g.size from rl_size _, show y.ru.o.length = y.o.size from rl_size _, show y.ru.n.length = y.n.size from rl_size _]
    rw [hc]
    rcases List.mem_cons.1 h with rfl | h
    · omega
    · have := long_each l x h; omega

set_option maxRecDepth 100000 in
set_option maxHeartbeats 16000000 in
theorem rprints_any (L : List RX) (A : Option Addr) (c : Nat) (x : RX) (w : World) (h : RulesAt w A c L) (ht : ∀ y ∈ L, y.Tiny) (hx : x.Tiny) (hm : MaxOk w) :
    Calls Tryd.prog 4 #[.slice A L.length c, x.v] w (RlB true w) := by
  have hL : L.length ≤ maxLen := Nat.le_trans h.cap h.capm
  unfold maxLen at hL
  have HK := Lib.hid (fun (W : World) (hb : Below w.heap.size w W) => rknown_any W (hm.below hb))
  have HMX := Lib.hid (fun (W : World) (hb : Below w.heap.size w W) => hm.below hb)
  have HF := Lib.hid hx
  have HT := Lib.hid ht
  have HM := Lib.hid h
  show Calls Tryd.prog 4 #[.slice A L.length c, .agg #[.int .i64 x.k, .string x.g, .string x.o, .string x.n]] w (RlB true w)
  obtain ⟨W1, hW1⟩ : ∃ W1, w.alloc (.cells #[.int .i64 x.k, .string x.g, .string x.o, .string x.n] 35) = W1 := ⟨_, rfl⟩
  have n1 : At4 W1 w.heap.size x := by rw [← hW1]; exact At4.new _ _
  have HB1 := Lib.hid (show Below w.heap.size w W1 by rw [← hW1]; exact (Below.refl _ _).alloc (Nat.le_refl _) _)
  have HW1 := Lib.hid hW1
  have N1 := Lib.hid n1
  clear n1 hW1 h ht hx hm
  by_cases h60 : 60 < L.length
  · have g1 : (60 : Int) < (L.length : Int) := by omega
    have HB := HB1
    go_enter Tryd.func4, Tryd.ntmps4
    go_wp2_with fail
    rw [HW1.out]
    refine (HK.out _ HB.out).mono ?_
    rintro e y ⟨rfl, hb⟩
    go_wp2_with fail
    go_ret
    exact ⟨rfl, HB.out.trans (hb.mono HB.out.size)⟩
  · have g1 : ¬ (60 : Int) < (L.length : Int) := by omega
    have HL := Lib.hid (rlong_any L A c W1 (HM.out.below HB1.out) (by omega) HT.out)
    obtain ⟨q, hq⟩ : ∃ q, longU (rusX L) = q := ⟨_, rfl⟩
    rw [hq] at HL
    have HQ := Lib.hid hq
    clear hq
    by_cases h30 : 3000 < q
    · have g2 : (3000 : Int) < (q : Int) := by omega
      go_enter Tryd.func4, Tryd.ntmps4
      go_wp2_with fail
      rw [HW1.out]
      refine HL.out.mono ?_
      rintro e w2 ⟨rfl, hb⟩
      have HB2 := Lib.hid (HB1.out.trans (hb.mono (by have := N1.out.lt; omega)))
      have N2 := Lib.hid (N1.out.below hb)
      clear hb HW1 HL
      have HB := HB2
      clear HB2
      go_wp2_with fail
      refine (HK.out _ HB.out).mono ?_
      rintro e y ⟨rfl, hb⟩
      go_wp2_with fail
      go_ret
      exact ⟨rfl, HB.out.trans (hb.mono HB.out.size)⟩
    · have g2 : ¬ (3000 : Int) < (q : Int) := by omega
      obtain ⟨q2, hq2⟩ : ∃ q2, 1 + x.g.size + x.o.size + x.n.size = q2 := ⟨_, rfl⟩
      have HQ2 := Lib.hid hq2
      clear hq2
      by_cases h5 : 500 < q2
      · have g3 : (500 : Int) < (q2 : Int) := by omega
        go_enter Tryd.func4, Tryd.ntmps4
        go_wp2_with fail
        rw [HW1.out]
        refine HL.out.mono ?_
        rintro e w2 ⟨rfl, hb⟩
        have HB2 := Lib.hid (HB1.out.trans (hb.mono (by have := N1.out.lt; omega)))
        have N2 := Lib.hid (N1.out.below hb)
        clear hb HW1 HL
        obtain ⟨c0, c1, c2, c3⟩ := N2.out.cells
        go_wp2_with fail
        obtain ⟨W3, hW3⟩ : ∃ W3, w2.alloc (.cells #[.int .i64 x.k, .string x.g, .string x.o, .string x.n] 35) = W3 := ⟨_, rfl⟩
        have n3 : At4 W3 w2.heap.size x := by rw [← hW3]; exact At4.new _ _
        have N3 := Lib.hid (show At4 W3 w.heap.size x by rw [← hW3]; exact N2.out.alloc _)
        have HB3 := Lib.hid (show Below w.heap.size w W3 by rw [← hW3]; exact HB2.out.alloc HB2.out.size _)
        have hl3 := rlong_any [x] (some ⟨w2.heap.size, 0, none⟩) 1 W3 n3.row (by simp) (fun y hy => by rw [List.mem_singleton] at hy; rw [hy]; exact HF.out)
        rw [long_one, HQ2.out] at hl3
        rw [hW3]
        clear n3 hW3 c0 c1 c2 c3 HB2 N2
        refine hl3.mono ?_
        rintro e w4 ⟨rfl, hb⟩
        have HB4 := Lib.hid (HB3.out.trans (hb.mono (by have := N3.out.lt; omega)))
        have N4 := Lib.hid (N3.out.below hb)
        clear hb hl3 HB3 N3
        go_wp2_with fail
        have HB := HB4
        clear HB4
        refine (HK.out _ HB.out).mono ?_
        rintro e y ⟨rfl, hb⟩
        go_wp2_with fail
        go_ret
        exact ⟨rfl, HB.out.trans (hb.mono HB.out.size)⟩
      · have g3 : ¬ (500 : Int) < (q2 : Int) := by omega
        have hsz : ∀ y ∈ L, y.g.size ≤ 100000 ∧ y.o.size ≤ 100000 ∧ y.n.size ≤ 100000 := fun y hy => by
          have := long_each L y hy
          rw [HQ.out] at this
          omega
        have HP1 := Lib.hid (fun (W : World) (hb : Below w.heap.size w W) => print_any A c L W (HM.out.below hb) (fun x hx => (HT.out x hx).fits) (HMX.out W hb))
        have HP2 := Lib.hid (fun (W : World) (hb : Below w.heap.size w W) => rrefprint_any L A c W (HM.out.below hb) (by omega) hsz)
        have HRR := Lib.hid (fun (W : World) (hb : Below w.heap.size w W) => right_rule x W HF.out.fits.g HF.out.fits.o HF.out.fits.n (HMX.out W hb))
        have HRF := Lib.hid (fun (W : World) => rright_any x W (by have := HQ2.out; omega) (by have := HQ2.out; omega) (by have := HQ2.out; omega))
        obtain ⟨p, hp⟩ : ∃ p, mkB (printU (rusX L)).2 = p := ⟨_, rfl⟩
        obtain ⟨er, he⟩ : ∃ er, (printU (rusX L)).1 = er := ⟨_, rfl⟩
        rw [hp, he] at HP1 HP2
        obtain ⟨rr, hrr⟩ : ∃ rr, rightU x.ru = rr := ⟨_, rfl⟩
        rw [hrr] at HRR HRF
        clear hp he hrr hsz
        go_enter Tryd.func4, Tryd.ntmps4
        go_wp2_with fail
        rw [HW1.out]
        refine HL.out.mono ?_
        rintro e w2 ⟨rfl, hb⟩
        have HB2 := Lib.hid (HB1.out.trans (hb.mono (by have := N1.out.lt; omega)))
        have N2 := Lib.hid (N1.out.below hb)
        clear hb HW1 HL
        obtain ⟨c0, c1, c2, c3⟩ := N2.out.cells
        go_wp2_with fail
        obtain ⟨W3, hW3⟩ : ∃ W3, w2.alloc (.cells #[.int .i64 x.k, .string x.g, .string x.o, .string x.n] 35) = W3 := ⟨_, rfl⟩
        have n3 : At4 W3 w2.heap.size x := by rw [← hW3]; exact At4.new _ _
        have N3 := Lib.hid (show At4 W3 w.heap.size x by rw [← hW3]; exact N2.out.alloc _)
        have HB3 := Lib.hid (show Below w.heap.size w W3 by rw [← hW3]; exact HB2.out.alloc HB2.out.size _)
        have hl3 := rlong_any [x] (some ⟨w2.heap.size, 0, none⟩) 1 W3 n3.row (by simp) (fun y hy => by rw [List.mem_singleton] at hy; rw [hy]; exact HF.out)
        rw [long_one, HQ2.out] at hl3
        rw [hW3]
        clear n3 hW3 c0 c1 c2 c3 HB2 N2
        refine hl3.mono ?_
        rintro e w4 ⟨rfl, hb⟩
        have HB4 := Lib.hid (HB3.out.trans (hb.mono (by have := N3.out.lt; omega)))
        have N4 := Lib.hid (N3.out.below hb)
        clear hb hl3 HB3 N3
        go_wp2_with fail
        refine (HP1.out _ HB4.out).mono ?_
        rintro e w5 ⟨rfl, hb⟩
        have HB5 := Lib.hid (HB4.out.trans (hb.mono HB4.out.size))
        have N5 := Lib.hid (N4.out.below hb)
        clear hb HB4 N4 HP1
        go_wp2_with fail
        refine (HP2.out _ HB5.out).mono ?_
        rintro e w7 ⟨rfl, hb⟩
        have HB7 := Lib.hid (HB5.out.trans (hb.mono HB5.out.size))
        have N7 := Lib.hid (N5.out.below hb)
        clear hb HB5 N5 HP2
        go_wp2_with fail
        obtain ⟨b0, b1, b2, b3⟩ := N7.out.cells
        refine wp_region_held_drew (S := (fun w' => w'.cell? ⟨w.heap.size, 0, none⟩ = some (.int .i64 x.k) ∧ w'.cell? ⟨w.heap.size, 0 + 1, none⟩ = some (.string x.g) ∧ w'.cell? ⟨w.heap.size, 0 + 2, none⟩ = some (.string x.o) ∧ w'.cell? ⟨w.heap.size, 0 + 3, none⟩ = some (.string x.n))) (by kernel_rfl) ⟨b0, b1, b2, b3⟩ (fun hHeld => ?_)
        have HB7d := Lib.hid HB7.out.drew
        have N7d := Lib.hid (show At4 w7.drew w.heap.size x from N7.out)
        refine wpAnyH_take (i := 0) (v := ?va0) rfl (by kernel_rfl) (by kernel_rfl) (by kernel_rfl) (fun _ _ _ h => h) (Or.inl ⟨by rfl, ?ya0⟩) (by assumption) ?ra0
        case ya0 =>
          intro w hSw
          (try dsimp only at hSw)
          go_simp
          first | done | with_reducible rfl
        try simp only [Act.put, List.getElem_toArray, List.getElem_cons_zero, List.setIfInBounds_toArray, List.set_cons_zero, List.set_cons_succ]
        refine wpAnyH_take (i := 1) (v := ?va1) rfl (by kernel_rfl) (by kernel_rfl) (by kernel_rfl) (fun _ _ _ h => h) (Or.inl ⟨by rfl, ?ya1⟩) (by assumption) ?ra1
        case ya1 =>
          intro w hSw
          (try dsimp only at hSw)
          go_simp
          first | done | with_reducible rfl
        try simp only [Act.put, List.getElem_toArray, List.getElem_cons_zero, List.getElem_cons_succ, List.setIfInBounds_toArray, List.set_cons_zero, List.set_cons_succ]
        refine wpAnyH_take (i := 2) (v := ?va2) rfl (by kernel_rfl) (by kernel_rfl) (by kernel_rfl) (fun _ _ _ h => h) (Or.inl ⟨by rfl, ?ya2⟩) (by assumption) ?ra2
        case ya2 =>
          intro w hSw
          (try dsimp only at hSw)
          go_simp
          first | done | with_reducible rfl
        try simp only [Act.put, List.getElem_toArray, List.getElem_cons_zero, List.getElem_cons_succ, List.setIfInBounds_toArray, List.set_cons_zero, List.set_cons_succ]
        refine wpAnyH_take (i := 3) (v := ?va3) rfl (by kernel_rfl) (by kernel_rfl) (by kernel_rfl) (fun _ _ _ h => h) (Or.inl ⟨by rfl, ?ya3⟩) (by assumption) ?ra3
        case ya3 =>
          intro w hSw
          (try dsimp only at hSw)
          go_simp
          first | done | with_reducible rfl
        try simp only [Act.put, List.getElem_toArray, List.getElem_cons_zero, List.getElem_cons_succ, List.setIfInBounds_toArray, List.set_cons_zero, List.set_cons_succ]
        refine wpAnyH_take (i := 4) (v := ?va4) rfl (by kernel_rfl) (by kernel_rfl) (by kernel_rfl) (fun _ _ _ h => h) (Or.inl ⟨by rfl, ?ya4⟩) (by assumption) ?ra4
        case ya4 =>
          intro w hSw
          (try dsimp only at hSw)
          go_simp
          first | done | with_reducible rfl
        try simp only [Act.put, List.getElem_toArray, List.getElem_cons_zero, List.getElem_cons_succ, List.setIfInBounds_toArray, List.set_cons_zero, List.set_cons_succ]
        refine wpAnyH_take (i := 5) (v := ?va5) rfl (by kernel_rfl) (by kernel_rfl) (by kernel_rfl) (fun _ _ _ h => h) (Or.inl ⟨by rfl, ?ya5⟩) (by assumption) ?ra5
        case ya5 =>
          intro w hSw
          (try dsimp only at hSw)
          go_simp
          first | done | with_reducible rfl
        try simp only [Act.put, List.getElem_toArray, List.getElem_cons_zero, List.getElem_cons_succ, List.setIfInBounds_toArray, List.set_cons_zero, List.set_cons_succ]
        refine wpAnyH_take (i := 6) (v := ?va6) rfl (by kernel_rfl) (by kernel_rfl) (by kernel_rfl) (fun _ _ _ h => h) (Or.inl ⟨by rfl, ?ya6⟩) (by assumption) ?ra6
        case ya6 =>
          intro w hSw
          (try dsimp only at hSw)
          go_simp
          first | done | with_reducible rfl
        try simp only [Act.put, List.getElem_toArray, List.getElem_cons_zero, List.getElem_cons_succ, List.setIfInBounds_toArray, List.set_cons_zero, List.set_cons_succ]
        refine wpAnyH_take (i := 7) (v := ?va7) rfl (by kernel_rfl) (by kernel_rfl) (by kernel_rfl) (fun _ _ _ h => h) (Or.inl ⟨by rfl, ?ya7⟩) (by assumption) ?ra7
        case ya7 =>
          intro w hSw
          (try dsimp only at hSw)
          go_simp
          first | done | with_reducible rfl
        try simp only [Act.put, List.getElem_toArray, List.getElem_cons_zero, List.getElem_cons_succ, List.setIfInBounds_toArray, List.set_cons_zero, List.set_cons_succ]
        refine wpAnyH_take (i := 8) (v := ?va8) rfl (by kernel_rfl) (by kernel_rfl) (by kernel_rfl) (fun _ _ _ h => h) (Or.inl ⟨by rfl, ?ya8⟩) (by assumption) ?ra8
        case ya8 =>
          intro w hSw
          (try dsimp only at hSw)
          go_simp
          first | done | with_reducible rfl
        try simp only [Act.put, List.getElem_toArray, List.getElem_cons_zero, List.getElem_cons_succ, List.setIfInBounds_toArray, List.set_cons_zero, List.set_cons_succ]
        refine wpAnyH_take (i := 9) (v := ?va9) rfl (by kernel_rfl) (by kernel_rfl) (by kernel_rfl) (fun _ _ _ h => h) (Or.inl ⟨by rfl, ?ya9⟩) (by assumption) ?ra9
        case ya9 =>
          intro w hSw
          (try dsimp only at hSw)
          go_simp
          first | done | with_reducible rfl
        try simp only [Act.put, List.getElem_toArray, List.getElem_cons_zero, List.getElem_cons_succ, List.setIfInBounds_toArray, List.set_cons_zero, List.set_cons_succ]
        refine wpAnyH_take (i := 11) (v := ?va11) rfl (by kernel_rfl) (by kernel_rfl) (by kernel_rfl) (fun _ _ _ h => h) (Or.inl ⟨by rfl, ?ya11⟩) (by assumption) ?ra11
        case ya11 =>
          intro w hSw
          (try dsimp only at hSw)
          go_simp
          first | done | with_reducible rfl
        try simp only [Act.put, List.getElem_toArray, List.getElem_cons_zero, List.getElem_cons_succ, List.setIfInBounds_toArray, List.set_cons_zero, List.set_cons_succ]
        refine wpAnyH_ready (rs := [10]) (by kernel_rfl) (by simp) ?_
        refine AllReadyH.cons rfl (fun K hK => ?_) AllReadyH.nil
        go_simp
        refine (HRR.out _ HB7d.out).mono ?_
        rintro e w8 ⟨rfl, hb⟩
        have HB8 := Lib.hid (HB7d.out.trans (hb.mono HB7d.out.size))
        have N8 := Lib.hid (N7d.out.below hb)
        clear hb
        obtain ⟨f0, f1, f2, f3⟩ := N8.out.cells
        refine hK.out _ _ ⟨f0, f1, f2, f3⟩ (fun hHeld => ?_)
        clear hK K f0 f1 f2 f3
        try simp only [Act.put, List.getElem_toArray, List.getElem_cons_zero, List.getElem_cons_succ, List.setIfInBounds_toArray, List.set_cons_zero, List.set_cons_succ]
        refine wpAnyH_ready (rs := [12]) (by kernel_rfl) (by simp) ?_
        refine AllReadyH.cons rfl (fun K hK => ?_) AllReadyH.nil
        go_simp
        refine (HRF.out _).mono ?_
        rintro e w9 ⟨rfl, hb⟩
        have HB9 := Lib.hid (HB8.out.trans (hb.mono HB8.out.size))
        have N9 := Lib.hid (N8.out.below hb)
        clear hb
        obtain ⟨f0, f1, f2, f3⟩ := N9.out.cells
        refine hK.out _ _ ⟨f0, f1, f2, f3⟩ (fun hHeld => ?_)
        clear hK K f0 f1 f2 f3
        try simp only [Act.put, List.getElem_toArray, List.getElem_cons_zero, List.getElem_cons_succ, List.setIfInBounds_toArray, List.set_cons_zero, List.set_cons_succ]
        refine wpAnyH_take (i := 13) (v := ?vc13) rfl (by kernel_rfl) (by kernel_rfl) (by kernel_rfl) (fun _ _ _ h => h) (Or.inl ⟨by rfl, ?yc13⟩) (by assumption) ?rc13
        case yc13 =>
          intro w hSw
          (try dsimp only at hSw)
          go_simp
          first | done | with_reducible rfl
        try simp only [Act.put, List.getElem_toArray, List.getElem_cons_zero, List.getElem_cons_succ, List.setIfInBounds_toArray, List.set_cons_zero, List.set_cons_succ]
        refine wpAnyH_take (i := 14) (v := ?vc14) rfl (by kernel_rfl) (by kernel_rfl) (by kernel_rfl) (fun _ _ _ h => h) (Or.inl ⟨by rfl, ?yc14⟩) (by assumption) ?rc14
        case yc14 =>
          intro w hSw
          (try dsimp only at hSw)
          go_simp
          first | done | with_reducible rfl
        try simp only [Act.put, List.getElem_toArray, List.getElem_cons_zero, List.getElem_cons_succ, List.setIfInBounds_toArray, List.set_cons_zero, List.set_cons_succ]
        refine wpAnyH_take (i := 15) (v := ?vc15) rfl (by kernel_rfl) (by kernel_rfl) (by kernel_rfl) (fun _ _ _ h => h) (Or.inl ⟨by rfl, ?yc15⟩) (by assumption) ?rc15
        case yc15 =>
          intro w hSw
          (try dsimp only at hSw)
          go_simp
          first | done | with_reducible rfl
        try simp only [Act.put, List.getElem_toArray, List.getElem_cons_zero, List.getElem_cons_succ, List.setIfInBounds_toArray, List.set_cons_zero, List.set_cons_succ]
        refine wpAnyH_ready (rs := [16]) (by kernel_rfl) (by simp) ?_
        refine AllReadyH.cons rfl (fun K hK => ?_) AllReadyH.nil
        go_simp
        refine (HK.out _ HB9.out).mono ?_
        rintro e w10 ⟨rfl, hb⟩
        have HB10 := Lib.hid (HB9.out.trans (hb.mono HB9.out.size))
        have N10 := Lib.hid (N9.out.below hb)
        clear hb
        obtain ⟨f0, f1, f2, f3⟩ := N10.out.cells
        refine hK.out _ _ ⟨f0, f1, f2, f3⟩ (fun hHeld => ?_)
        clear hK K f0 f1 f2 f3
        try simp only [Act.put, List.getElem_toArray, List.getElem_cons_zero, List.getElem_cons_succ, List.setIfInBounds_toArray, List.set_cons_zero, List.set_cons_succ]
        refine wpAnyH_take (i := 17) (v := ?vd17) rfl (by kernel_rfl) (by kernel_rfl) (by kernel_rfl) (fun _ _ _ h => h) (Or.inl ⟨by rfl, ?yd17⟩) (by assumption) ?rd17
        case yd17 =>
          intro w hSw
          (try dsimp only at hSw)
          go_simp
          first | done | with_reducible rfl
        try simp only [Act.put, List.getElem_toArray, List.getElem_cons_zero, List.getElem_cons_succ, List.setIfInBounds_toArray, List.set_cons_zero, List.set_cons_succ]
        refine wpAnyH_take (i := 18) (v := ?vd18) rfl (by kernel_rfl) (by kernel_rfl) (by kernel_rfl) (fun _ _ _ h => h) (Or.inl ⟨by rfl, ?yd18⟩) (by assumption) ?rd18
        case yd18 =>
          intro w hSw
          (try dsimp only at hSw)
          go_simp
          first | done | with_reducible rfl
        try simp only [Act.put, List.getElem_toArray, List.getElem_cons_zero, List.getElem_cons_succ, List.setIfInBounds_toArray, List.set_cons_zero, List.set_cons_succ]
        refine wpAnyH_done (by kernel_rfl) ?_ _
        go_wp2_with fail
        go_ret
        exact ⟨rfl, HB10.out⟩
end Go.Proofs.YtjhdobknhgjdbaaDoor
