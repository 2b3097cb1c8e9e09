/-
  The law GraphTurned. (gen_gplawt.py)
-/
import Derived.Test.YteigepblocbnlaaGpEdges
import Derived.Test.YteigepblocbnlaaGpLawR
namespace Go.Proofs.Yteigepblocbnlaa.Gp
open Go Go.RowKit Go.Shelf Go.Proofs
attribute [local go_sem] Oper.semAt_some

theorem belowQ {n : Nat} {a w : World} (h : Below n a w) (q : Nat) : Below n a (w.drewN q) := ⟨h.os, h.tape, h.output, h.size, h.block⟩
def swapE (m : List EN) : List EN := m.map (fun e => (e.2, e.1))
theorem swapE_length (m : List EN) : (swapE m).length = m.length := by unfold swapE; simp
theorem swap_turned {N : Nat} {m : List EN} (hm : ∀ e ∈ m, e.1 < N ∧ e.2 < N) (hs : ∀ e ∈ swapE m, e.1 < N ∧ e.2 < N) : TurnedOf (adjT N m) (adjT N (swapE m)) N := by
  intro x y _ _
  rw [adj_iff hs, adj_iff hm]
  unfold swapE
  rw [List.mem_map]
  constructor
  · rintro ⟨⟨a, b⟩, h, e⟩; cases e; exact h
  · intro h; exact ⟨_, h, rfl⟩
set_option maxRecDepth 100000 in
set_option maxHeartbeats 16000000 in
theorem graphturned_any (n : Int) (A : Option Addr) (c : Nat) (l : List EI) (a : Nat) (w : World) (hl : EdgesAt w A l) (ha : a < 256) :
    Calls Try.prog 6 #[.int .i64 n, .slice A l.length c, .int .u8 a] w fun e w' => e = .returned (.bool true) ∧ Below w.heap.size w w' := by
  have HS := Lib.hid (small_any n A l.length c w)
  cases hs : smallB n l.length with
  | false =>
    rw [hs] at HS
    clear hs
    go_enter Try.func6, Try.ntmps6
    go_wp2_with fail
    refine HS.out.mono ?_
    rintro e w1 ⟨rfl, hw1⟩
    have hw1 := hw1.symm; subst hw1
    go_wp2_with fail
    refine (known_any _).mono ?_
    rintro e w2 ⟨rfl, hb2⟩
    go_wp2_with fail
    go_ret
    exact ⟨rfl, hb2⟩
  | true =>
    rw [hs] at HS
    have hs2 := hs
    unfold smallB at hs2
    simp only [Bool.and_eq_true, decide_eq_true_eq] at hs2
    have HR := Lib.hid (right_any n A c l w hl (by omega))
    cases hr : rightB n l with
    | false =>
      rw [hr] at HR
      clear hs hr hs2
      go_enter Try.func6, Try.ntmps6
      go_wp2_with fail
      refine HS.out.mono ?_
      rintro e w1 ⟨rfl, hw1⟩
      have hw1 := hw1.symm; subst hw1
      go_wp2_with fail
      refine HR.out.mono ?_
      rintro e w1 ⟨rfl, hb1⟩
      go_wp2_with fail
      refine (known_any _).mono ?_
      rintro e w2 ⟨rfl, hb2⟩
      go_wp2_with fail
      go_ret
      exact ⟨rfl, hb1.trans (hb2.mono hb1.size)⟩
    | true =>
      rw [hr] at HR
      obtain ⟨N, m, rfl, rfl, hN, hm⟩ := right_nats hr
      rw [castE_length] at *
      have HL := Lib.hid hl
      by_cases h0 : N < 1
      · have k1 : ((N : Int) < 1) := by omega
        clear hs hr hs2
        go_enter Try.func6, Try.ntmps6
        go_wp2_with fail
        refine HS.out.mono ?_
        rintro e w1 ⟨rfl, hw1⟩
        have hw1 := hw1.symm; subst hw1
        go_wp2_with fail
        refine HR.out.mono ?_
        rintro e w1 ⟨rfl, hb1⟩
        go_wp2_with fail
        refine (known_any _).mono ?_
        rintro e w2 ⟨rfl, hb2⟩
        go_wp2_with fail
        go_ret
        exact ⟨rfl, hb1.trans (hb2.mono hb1.size)⟩
      · have k1 : ¬ ((N : Int) < 1) := by omega
        have k2 : ¬ ((N : Int) = 0) := by omega
        have hN60 : N ≤ 60 := by omega
        have hm150 : m.length ≤ 150 := by omega
        have HRT := Lib.hid hr
        obtain ⟨x, hx⟩ : ∃ x, a % N = x := ⟨_, rfl⟩
        have ex : (a : Int) % (N : Int) = (x : Int) := by rw [← hx]; rfl
        have hxN : x < N := by rw [← hx]; exact Nat.mod_lt _ (by omega)
        obtain ⟨M, hM⟩ : ∃ M, m.length = M := ⟨_, rfl⟩
        have HM := Lib.hid hM
        rw [hM] at HR HS hm150 ⊢
        clear hx hM
        clear hs hr hs2
        go_enter Try.func6, Try.ntmps6
        go_wp2_with fail
        refine HS.out.mono ?_
        rintro e w1 ⟨rfl, hw1⟩
        have hw1 := hw1.symm; subst hw1
        go_wp2_with fail
        refine HR.out.mono ?_
        rintro e w1 ⟨rfl, hb1⟩
        go_wp2_with fail
        have HB1 := Lib.hid hb1
        have hsw : ∀ e ∈ swapE m, e.1 < N ∧ e.2 < N := fun e he => by
          unfold swapE at he
          obtain ⟨e0, h0, rfl⟩ := List.mem_map.1 he
          exact ⟨(hm e0 h0).2, (hm e0 h0).1⟩
        clear hb1 HR
        go_loopw [7, 8] (fun s y wr => ∃ (j q : Nat) (A' : Option Addr) (c' : Nat), j ≤ M ∧ s = .slice A' q c' ∧ y = .int .i64 j ∧ Hid (q = j) ∧ Hid (OE w1.heap.size wr (.slice A' (castE (swapE (m.take j))).length c') (castE (swapE (m.take j)))) ∧ Hid (Below w1.heap.size w1 wr)) (fun _ y _ => M - (intOf y).toNat)
        case atStart => exact ⟨0, 0, none, 0, Nat.zero_le _, rfl, rfl, rfl, OE.nil _ _, Below.refl _ _⟩
        case round =>
          obtain ⟨j, q, A', c', hj, rfl, rfl, HQ, HO, HB⟩ := hrel
          by_cases h1 : j < M
          · obtain ⟨⟨ef, et⟩, he⟩ : ∃ e, m[j]? = some e := ⟨_, List.getElem?_eq_getElem (by have := HM.out; omega)⟩
            obtain ⟨g, o, rfl, hc⟩ := ((HL.out.below HB1.out).below HB.out) (by rw [castE_length]; have := HM.out; omega)
            obtain ⟨c1, c2⟩ := hc j _ (castE_get he)
            have HE := Lib.hid he
            have hlen : (castE (swapE (m.take j))).length = q := by rw [castE_length, swapE_length, List.length_take, HM.out, HQ.out]; omega
            have HLN := Lib.hid hlen
            have q1 : (j : Int) < (M : Int) := by omega
            have w1' : IntKind.i64.wrap (j : Int) = (j : Int) := IntWalk.i64_in _ (by omega)
            have hO1 : OE w1.heap.size wr (.slice A' q c') (castE (swapE (m.take j))) := by have h0 := HO.out; rw [hlen] at h0; exact h0
            have HO1 := Lib.hid hO1
            clear he hc hlen hO1
            go_wp2_with fail
            refine wp_region_held_drew (S := (fun w' => w'.cell? ⟨g, o + j * 2, none⟩ = some (.int .i64 ef) ∧ w'.cell? ⟨g, o + j * 2 + 1, none⟩ = some (.int .i64 et))) (by kernel_rfl) ⟨c1, c2⟩ (fun hHeld => ?_)
            refine wpAnyH_take (i := 0) (v := ?vs0) rfl (by kernel_rfl) (by kernel_rfl) (by kernel_rfl) (fun _ _ _ h => h) (Or.inl ⟨by rfl, ?ys0⟩) (by assumption) ?rs0
            case ys0 =>
              intro w hSw
              (try dsimp only at hSw)
              go_simp
              first | done | with_reducible rfl
            try simp only [Act.put, List.getElem_toArray, List.getElem_cons_zero, List.setIfInBounds_toArray, List.set_cons_zero, List.set_cons_succ]
            refine wpAnyH_take (i := 1) (v := ?vs1) rfl (by kernel_rfl) (by kernel_rfl) (by kernel_rfl) (fun _ _ _ h => h) (Or.inl ⟨by rfl, ?ys1⟩) (by assumption) ?rs1
            case ys1 =>
              intro w hSw
              (try dsimp only at hSw)
              go_simp
              first | done | with_reducible rfl
            try simp only [Act.put, List.getElem_toArray, List.getElem_cons_zero, List.getElem_cons_succ, List.setIfInBounds_toArray, List.set_cons_zero, List.set_cons_succ]
            refine wpAnyH_take (i := 2) (v := ?vs2) rfl (by kernel_rfl) (by kernel_rfl) (by kernel_rfl) (fun _ _ _ h => h) (Or.inl ⟨by rfl, ?ys2⟩) (by assumption) ?rs2
            case ys2 =>
              intro w hSw
              (try dsimp only at hSw)
              go_simp
              first | done | with_reducible rfl
            try simp only [Act.put, List.getElem_toArray, List.getElem_cons_zero, List.getElem_cons_succ, List.setIfInBounds_toArray, List.set_cons_zero, List.set_cons_succ]
            refine wpAnyH_take (i := 3) (v := ?vs3) rfl (by kernel_rfl) (by kernel_rfl) (by kernel_rfl) (fun _ _ _ h => h) (Or.inl ⟨by rfl, ?ys3⟩) (by assumption) ?rs3
            case ys3 =>
              intro w hSw
              (try dsimp only at hSw)
              go_simp
              first | done | with_reducible rfl
            try simp only [Act.put, List.getElem_toArray, List.getElem_cons_zero, List.getElem_cons_succ, List.setIfInBounds_toArray, List.set_cons_zero, List.set_cons_succ]
            refine wpAnyH_take (i := 4) (v := ?vs4) rfl (by kernel_rfl) (by kernel_rfl) (by kernel_rfl) (fun _ _ _ h => h) (Or.inl ⟨by rfl, ?ys4⟩) (by assumption) ?rs4
            case ys4 =>
              intro w hSw
              (try dsimp only at hSw)
              go_simp
              first | done | with_reducible rfl
            try simp only [Act.put, List.getElem_toArray, List.getElem_cons_zero, List.getElem_cons_succ, List.setIfInBounds_toArray, List.set_cons_zero, List.set_cons_succ]
            refine wpAnyH_take (i := 5) (v := ?vs5) rfl (by kernel_rfl) (by kernel_rfl) (by kernel_rfl) (fun _ _ _ h => h) (Or.inl ⟨by rfl, ?ys5⟩) (by assumption) ?rs5
            case ys5 =>
              intro w hSw
              (try dsimp only at hSw)
              go_simp
              first | done | with_reducible rfl
            try simp only [Act.put, List.getElem_toArray, List.getElem_cons_zero, List.getElem_cons_succ, List.setIfInBounds_toArray, List.set_cons_zero, List.set_cons_succ]
            refine wpAnyH_take (i := 6) (v := ?vs6) rfl (by kernel_rfl) (by kernel_rfl) (by kernel_rfl) (fun _ _ _ h => h) (Or.inl ⟨by rfl, ?ys6⟩) (by assumption) ?rs6
            case ys6 =>
              intro w hSw
              (try dsimp only at hSw)
              go_simp
              first | done | with_reducible rfl
            try simp only [Act.put, List.getElem_toArray, List.getElem_cons_zero, List.getElem_cons_succ, List.setIfInBounds_toArray, List.set_cons_zero, List.set_cons_succ]
            refine wpAnyH_take (i := 7) (v := ?vs7) rfl (by kernel_rfl) (by kernel_rfl) (by kernel_rfl) (fun _ _ _ h => h) (Or.inl ⟨by rfl, ?ys7⟩) (by assumption) ?rs7
            case ys7 =>
              intro w hSw
              (try dsimp only at hSw)
              go_simp
              first | done | with_reducible rfl
            try simp only [Act.put, List.getElem_toArray, List.getElem_cons_zero, List.getElem_cons_succ, List.setIfInBounds_toArray, List.set_cons_zero, List.set_cons_succ]
            refine wpAnyH_take (i := 8) (v := ?vs8) rfl (by kernel_rfl) (by kernel_rfl) (by kernel_rfl) (fun _ _ _ h => h) (Or.inl ⟨by rfl, ?ys8⟩) (by assumption) ?rs8
            case ys8 =>
              intro w hSw
              (try dsimp only at hSw)
              go_simp
              first | done | with_reducible rfl
            try simp only [Act.put, List.getElem_toArray, List.getElem_cons_zero, List.getElem_cons_succ, List.setIfInBounds_toArray, List.set_cons_zero, List.set_cons_succ]
            refine wpAnyH_take (i := 9) (v := ?vs9) rfl (by kernel_rfl) (by kernel_rfl) (by kernel_rfl) (fun _ _ _ h => h) (Or.inl ⟨by rfl, ?ys9⟩) (by assumption) ?rs9
            case ys9 =>
              intro w hSw
              (try dsimp only at hSw)
              go_simp
              first | done | with_reducible rfl
            try simp only [Act.put, List.getElem_toArray, List.getElem_cons_zero, List.getElem_cons_succ, List.setIfInBounds_toArray, List.set_cons_zero, List.set_cons_succ]
            refine wpAnyH_take (i := 10) (v := ?vs10) rfl (by kernel_rfl) (by kernel_rfl) (by kernel_rfl) (fun _ _ _ h => h) (Or.inl ⟨by rfl, ?ys10⟩) (by assumption) ?rs10
            case ys10 =>
              intro w hSw
              (try dsimp only at hSw)
              go_simp
              first | done | with_reducible rfl
            try simp only [Act.put, List.getElem_toArray, List.getElem_cons_zero, List.getElem_cons_succ, List.setIfInBounds_toArray, List.set_cons_zero, List.set_cons_succ]
            refine wpAnyH_take (i := 11) (v := ?vs11) rfl (by kernel_rfl) (by kernel_rfl) (by kernel_rfl) (fun _ _ _ h => h) (Or.inl ⟨by rfl, ?ys11⟩) (by assumption) ?rs11
            case ys11 =>
              intro w hSw
              (try dsimp only at hSw)
              go_simp
              first | done | with_reducible rfl
            try simp only [Act.put, List.getElem_toArray, List.getElem_cons_zero, List.getElem_cons_succ, List.setIfInBounds_toArray, List.set_cons_zero, List.set_cons_succ]
            refine wpAnyH_ready (rs := [12]) (by kernel_rfl) (by simp) ?_
            refine AllReadyH.cons rfl (fun K hK => ?_) AllReadyH.nil
            go_simp
            have hb8 : Below wr.drew.heap.size wr.drew (wr.drew.alloc (.cells #[.int .i64 et, .int .i64 ef] 35)) := (Below.refl _ _).alloc (Nat.le_refl _) _
            have p1 := (World.cell?_of_block (a := ⟨g, o + j * 2, none⟩) (hb8.block _ (World.block_lt_of_cell? wr (a := ⟨g, o + j * 2, none⟩) c1))).trans c1
            have p2 := (World.cell?_of_block (a := ⟨g, o + j * 2 + 1, none⟩) (hb8.block _ (World.block_lt_of_cell? wr (a := ⟨g, o + j * 2 + 1, none⟩) c2))).trans c2
            clear hb8
            refine hK.out _ _ ⟨p1, p2⟩ (fun hHeld => ?_)
            clear hK K
            try simp only [Act.put, List.getElem_toArray, List.getElem_cons_zero, List.getElem_cons_succ, List.setIfInBounds_toArray, List.set_cons_zero, List.set_cons_succ]
            refine wpAnyH_ready (rs := [13]) (by kernel_rfl) (by simp) ?_
            refine AllReadyH.cons rfl (fun K hK => ?_) AllReadyH.nil
            refine wp_appE (e := ((et : Int), (ef : Int))) (l := castE (swapE (m.take j))) (base := w1.heap.size) _ _ rfl rfl (HO1.out.below (((Below.refl _ wr).drew).alloc (Nat.le_refl _) (.cells #[.int .i64 et, .int .i64 ef] 35))) rfl (World.alloc_heap_new wr.drew _) (by rw [castE_length, swapE_length, List.length_take]; omega) (by show w1.heap.size ≤ (wr.alloc (.cells #[.int .i64 et, .int .i64 ef] 35)).heap.size; rw [World.size_alloc]; have := HB.out.size; omega) ?_
            intro A8 c8 w8 hown8 hgr8
            have hlow : Below w1.heap.size w1 w8 := OE.low (HO1.out.below (((Below.refl _ wr).drew).alloc (Nat.le_refl _) (.cells #[.int .i64 et, .int .i64 ef] 35))) ((HB.out.drew).alloc HB.out.size _) hgr8 (Nat.le_refl _) (by show w1.heap.size ≤ (wr.alloc (.cells #[.int .i64 et, .int .i64 ef] 35)).heap.size; rw [World.size_alloc]; have := HB.out.size; omega)
            obtain ⟨g9, o9, e9, hc9⟩ := ((HL.out.below HB1.out).below hlow) (by rw [castE_length]; have := HM.out; omega)
            cases e9
            obtain ⟨z1, z2⟩ := hc9 j _ (castE_get HE.out)
            have HOW := Lib.hid hown8
            have HLOW := Lib.hid hlow
            clear hown8 hgr8 hlow hc9
            refine hK.out _ _ ⟨z1, z2⟩ (fun hHeld => ?_)
            clear hK K
            try simp only [Act.put, List.getElem_toArray, List.getElem_cons_zero, List.getElem_cons_succ, List.setIfInBounds_toArray, List.set_cons_zero, List.set_cons_succ]
            refine wpAnyH_take (i := 14) (v := ?vs14) rfl (by kernel_rfl) (by kernel_rfl) (by kernel_rfl) (fun _ _ _ h => h) (Or.inl ⟨by rfl, ?ys14⟩) (by assumption) ?rs14
            case ys14 =>
              intro w hSw
              (try dsimp only at hSw)
              go_simp
              first | done | with_reducible rfl
            try simp only [Act.put, List.getElem_toArray, List.getElem_cons_zero, List.getElem_cons_succ, List.setIfInBounds_toArray, List.set_cons_zero, List.set_cons_succ]
            refine wpAnyH_done (by kernel_rfl) ?_ _
            go_wp2_with fail
            go_roundw
            case rel =>
              refine ⟨j + 1, _, A8, c8, by omega, rfl, by go_num, ?_, ?_, HLOW.out⟩
              · show _ = j + 1
                have h1 := HLN.out; have h2 := HQ.out; rw [castE_length, swapE_length, List.length_take] at h1; simp [castE, swapE]; omega
              · have e1 : castE (swapE (m.take (j + 1))) = castE (swapE (m.take j)) ++ [((et : Int), (ef : Int))] := by
                  rw [List.take_add_one, HE.out]
                  show castE (swapE (m.take j ++ [(ef, et)])) = _
                  unfold swapE; rw [List.map_append, castE_append]; rfl
                rw [e1]; exact HOW.out
            case measure => simp [intOf]; omega
          · obtain rfl : j = M := by omega
            have hfull : (m.take j) = m := by rw [← HM.out, List.take_length]
            have hO2 := HO.out
            rw [hfull] at hO2
            obtain ⟨_, _, he0, hE2, _⟩ := hO2.form
            cases he0
            have hq : (swapE m).length = q := by rw [swapE_length, HM.out, HQ.out]
            have hbw : Below w.heap.size w wr := HB1.out.trans (HB.out.mono HB1.out.size)
            have hre := reach_any N x A' c' (swapE m) wr hE2 (by rw [swapE_length]; have := HM.out; omega) (by omega) hsw (rightB_cast (by omega) hsw) hxN
            rw [hq] at hre
            have HRE := Lib.hid hre
            have HE2 := Lib.hid hE2
            have HQ2 := Lib.hid hq
            have HBW := Lib.hid hbw
            clear hre hE2 hO2 hq hbw hfull
            go_wp2_with fail
            refine HRE.out.mono ?_
            rintro e w2 ⟨gp, rfl, hgp, hb2⟩
            have HB2 := Lib.hid hb2
            have HGP := Lib.hid hgp
            have n1 : ((N : Int) != (N : Int)) = false := by simp
            clear hb2 hgp HRE
            go_wp2_with fail
            go_loopw [11] (fun i wq => ∃ (k : Nat), k ≤ N ∧ i = .int .i64 k ∧ Hid (Below w2.heap.size w2 wq)) (fun i _ => N - (intOf i).toNat)
            case atStart => exact ⟨0, Nat.zero_le _, rfl, Below.refl _ _⟩
            case round =>
              obtain ⟨k, hk, rfl, HK⟩ := hrel
              by_cases h1 : k < N
              · obtain ⟨wq, hwq⟩ : ∃ wq, wq = wr := ⟨_, rfl⟩
                subst hwq
                have hlow : Below w.heap.size w wq := HBW.out.trans ((HB2.out.trans (HK.out.mono HB2.out.size)).mono HBW.out.size)
                have hre := reach_any N k A c m wq (HL.out.below hlow) (by have := HM.out; omega) (by omega) hm HRT.out h1
                rw [HM.out] at hre
                have HRE := Lib.hid hre
                have q1 : (k : Int) < (N : Int) := by omega
                clear hre hlow n1
                go_wp2_with fail
                refine HRE.out.mono ?_
                rintro e w3 ⟨gq, rfl, hgq, hb3⟩
                obtain ⟨b1, hp1, i1⟩ := RC_rch (N := N) (m := m) (x := k) (y := x) h1 hxN
                obtain ⟨b2, hp2, i2⟩ := RC_rch (N := N) (m := swapE m) (x := x) (y := k) hxN h1
                obtain rfl : b1 = b2 := by rw [Bool.eq_iff_iff, i1, i2]; exact ⟨fun h => Rch.turn (swap_turned hm hsw) h, fun h => Rch.turn (swap_turned hm hsw).symm h⟩
                have d1 := BoolsAt hgq hp1
                have d2 := BoolsAt ((hb3.block _ (by have := HK.out.size; have := (Array.getElem?_eq_some_iff.1 HGP.out).1; omega)).trans ((HK.out.block _ (Array.getElem?_eq_some_iff.1 HGP.out).1).trans HGP.out)) hp2
                have n1 : ((N : Int) != (N : Int)) = false := by simp
                have n2 : (b1 != b1) = false := by simp
                have q2 : (x : Int) < (N : Int) := by omega
                have wx : IntKind.i64.wrap (x : Int) = (x : Int) := IntWalk.i64_in _ (by omega)
                have wk : IntKind.i64.wrap (k : Int) = (k : Int) := IntWalk.i64_in _ (by omega)
                have HB3 := Lib.hid hb3
                clear hp1 i1 hp2 i2 hgq hb3
                go_wp2_with fail
                go_quiet (fail)
                go_wp2_with fail
                go_roundw
                case rel => exact ⟨k + 1, by omega, by go_num, belowQ (HK.out.trans (HB3.out.mono HK.out.size)) _⟩
                case measure => simp [intOf]; omega
              · obtain rfl : k = N := by omega
                obtain ⟨wq, hwq⟩ : ∃ wq, wq = wr := ⟨_, rfl⟩
                subst hwq
                have hE3 := HE2.out.below (HB2.out.trans (HK.out.mono HB2.out.size))
                have hri := rings_any k A' c' (swapE m) wq hE3 (by rw [swapE_length]; have := HM.out; omega) (by omega) hsw (rightB_cast (by omega) hsw)
                rw [HQ2.out] at hri
                have HRI := Lib.hid hri
                have hlow : Below w.heap.size w wq := HBW.out.trans ((HB2.out.trans (HK.out.mono HB2.out.size)).mono HBW.out.size)
                have HLOW := Lib.hid hlow
                clear hri hE3 hlow n1
                go_wp2_with fail
                refine HRI.out.mono ?_
                rintro e w3 ⟨g3, rfl, hg3, hb3⟩
                have hri := rings_any k A c m w3 ((HL.out.below HLOW.out).below hb3) (by have := HM.out; omega) (by omega) hm HRT.out
                rw [HM.out] at hri
                have HRI := Lib.hid hri
                have HB3 := Lib.hid hb3
                have HG3 := Lib.hid hg3
                clear hri hb3 hg3
                go_wp2_with fail
                refine HRI.out.mono ?_
                rintro e w4 ⟨g4, rfl, hg4, hb4⟩
                have hsm := sameints_any (RT k (swapE m)) (RT k m) (some ⟨g3, 0, none⟩) (some ⟨g4, 0, none⟩) k k w4 ((IntsAt.block HG3.out).below hb4) (IntsAt.block hg4) (by rw [RT_length]; omega) (by rw [RT_length]; omega)
                rw [RT_length, RT_length, decide_eq_true (RT_same hsw hm (fun x y => ⟨fun h => ⟨Rch.turn (swap_turned hm hsw).symm h.2, Rch.turn (swap_turned hm hsw).symm h.1⟩, fun h => ⟨Rch.turn (swap_turned hm hsw) h.2, Rch.turn (swap_turned hm hsw) h.1⟩⟩))] at hsm
                have HSM := Lib.hid hsm
                have HB4 := Lib.hid (HLOW.out.trans ((HB3.out.trans (hb4.mono HB3.out.size)).mono HLOW.out.size))
                clear hsm hg4 hb4
                go_wp2_with fail
                refine HSM.out.mono ?_
                rintro e w5 ⟨rfl, hb5⟩
                go_wp2_with fail
                refine (known_any _).mono ?_
                rintro e w6 ⟨rfl, hb6⟩
                go_wp2_with fail
                go_ret
                exact ⟨rfl, HB4.out.trans ((hb5.trans (hb6.mono hb5.size)).mono HB4.out.size)⟩
end Go.Proofs.Yteigepblocbnlaa.Gp
