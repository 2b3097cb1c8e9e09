/-
  The law GraphSides. (gen_gplaws.py)
-/
import Derived.Test.YteigepblocbnlaaGpSides
import Derived.Test.YteigepblocbnlaaGpLawO
namespace Go.Proofs.Yteigepblocbnlaa.Gp
open Go Go.RowKit Go.Shelf Go.Proofs
attribute [local go_sem] Oper.semAt_some

theorem ints_front {w : World} {g : Nat} {a b : List Nat} (h : w.heap[g]? = some (.cells (valsI (a ++ b)).toArray 3 (0, 0))) : IntsAt w (some ⟨g, 0, none⟩) a := fun _ => ⟨g, 0, rfl, fun i x hx => by
  rw [cell_of_row _ _ _ _ _ _ h, Nat.zero_add, List.getElem?_toArray]
  exact valsI_get (by rw [List.getElem?_append_left (List.getElem?_eq_some_iff.1 hx).1]; exact hx)⟩
theorem ints_rest {w : World} {g N P : Nat} {a b : List Nat} {A : Option Addr} (ha : a.length = N) (hb : b.length = P) (h : w.heap[g]? = some (.cells (valsI (a ++ b)).toArray 3 (0, 0))) (hA : 0 < P → A = some ⟨g, N, none⟩) : IntsAt w A b := fun hn => ⟨g, N, hA (by omega), fun i x hx => by
  rw [cell_of_row _ _ _ _ _ _ h, List.getElem?_toArray]
  exact valsI_get (by rw [List.getElem?_append_right (by omega), show N + i - a.length = i by omega]; exact hx)⟩
set_option maxRecDepth 100000 in
set_option maxHeartbeats 16000000 in
theorem graphsides_any (n : Int) (A : Option Addr) (c : Nat) (l : List EI) (p : Int) (B : Option Addr) (d : Nat) (k : List EI) (w : World) (hl : EdgesAt w A l) (hk : EdgesAt w B k) (hA0 : A = none → c = 0) :
    Calls Try.prog 8 #[.int .i64 n, .slice A l.length c, .int .i64 p, .slice B k.length d] w fun e w' => e = .returned (.bool true) ∧ Below w.heap.size w w' := by
  have HL := Lib.hid hl
  have HK := Lib.hid hk
  have HS1 := Lib.hid (small_any n A l.length c w)
  cases hs1 : smallB n l.length with
  | false =>
    rw [hs1] at HS1
    clear hs1
    go_enter Try.func8, Try.ntmps8
    go_wp2_with fail
    refine HS1.out.mono ?_
    rintro e w1 ⟨rfl, hw1⟩
    have hw1 := hw1.symm; subst hw1
    go_wp2_with fail
    refine (known_any _).mono ?_
    rintro e w2 ⟨rfl, hb2⟩
    go_wp2_with fail
    go_ret
    exact ⟨rfl, hb2⟩
  | true =>
    rw [hs1] at HS1
    have HS2 := Lib.hid (small_any p B k.length d w)
    have hs1' := hs1
    unfold smallB at hs1'
    simp only [Bool.and_eq_true, decide_eq_true_eq] at hs1'
    cases hs2 : smallB p k.length with
    | false =>
      rw [hs2] at HS2
      clear hs1 hs2
      go_enter Try.func8, Try.ntmps8
      go_wp2_with fail
      refine HS1.out.mono ?_
      rintro e w1 ⟨rfl, hw1⟩
      have hw1 := hw1.symm; subst hw1
      go_wp2_with fail
      refine HS2.out.mono ?_
      rintro e w1 ⟨rfl, hw1⟩
      have hw1 := hw1.symm; subst hw1
      go_wp2_with fail
      refine (known_any _).mono ?_
      rintro e w2 ⟨rfl, hb2⟩
      go_wp2_with fail
      go_ret
      exact ⟨rfl, hb2⟩
    | true =>
      rw [hs2] at HS2
      have hs2' := hs2
      unfold smallB at hs2'
      simp only [Bool.and_eq_true, decide_eq_true_eq] at hs2'
      have HR1 := Lib.hid (right_any n A c l w hl (by omega))
      have HR2 := Lib.hid (fun (w' : World) (h : EdgesAt w' B k) => right_any p B d k w' h (by omega))
      cases hr1 : rightB n l with
      | false =>
        rw [hr1] at HR1
        clear hs1 hs2 hr1 hs1' hs2'
        go_enter Try.func8, Try.ntmps8
        go_wp2_with fail
        refine HS1.out.mono ?_
        rintro e w1 ⟨rfl, hw1⟩
        have hw1 := hw1.symm; subst hw1
        go_wp2_with fail
        refine HS2.out.mono ?_
        rintro e w1 ⟨rfl, hw1⟩
        have hw1 := hw1.symm; subst hw1
        go_wp2_with fail
        refine HR1.out.mono ?_
        rintro e w1 ⟨rfl, hb1⟩
        go_wp2_with fail
        refine (known_any _).mono ?_
        rintro e w2 ⟨rfl, hb2⟩
        go_wp2_with fail
        go_ret
        exact ⟨rfl, hb1.trans (hb2.mono hb1.size)⟩
      | true =>
        rw [hr1] at HR1
        cases hr2 : rightB p k with
        | false =>
          rw [hr2] at HR2
          clear hs1 hs2 hr1 hr2 hs1' hs2'
          go_enter Try.func8, Try.ntmps8
          go_wp2_with fail
          refine HS1.out.mono ?_
          rintro e w1 ⟨rfl, hw1⟩
          have hw1 := hw1.symm; subst hw1
          go_wp2_with fail
          refine HS2.out.mono ?_
          rintro e w1 ⟨rfl, hw1⟩
          have hw1 := hw1.symm; subst hw1
          go_wp2_with fail
          refine HR1.out.mono ?_
          rintro e w1 ⟨rfl, hb1⟩
          go_wp2_with fail
          refine (HR2.out w1 (HK.out.below hb1)).mono ?_
          rintro e w1' ⟨rfl, hb1'⟩
          go_wp2_with fail
          refine (known_any _).mono ?_
          rintro e w2 ⟨rfl, hb2⟩
          go_wp2_with fail
          go_ret
          exact ⟨rfl, (hb1.trans (hb1'.mono hb1.size)).trans (hb2.mono (Nat.le_trans hb1.size hb1'.size))⟩
        | true =>
          rw [hr2] at HR2
          obtain ⟨N, ea, rfl, rfl, hN, hea⟩ := right_nats hr1
          obtain ⟨P, eb, rfl, rfl, hP, heb⟩ := right_nats hr2
          simp only [castE_length] at *
          obtain ⟨MA, hMA⟩ : ∃ MA, ea.length = MA := ⟨_, rfl⟩
          obtain ⟨MB, hMB⟩ : ∃ MB, eb.length = MB := ⟨_, rfl⟩
          obtain ⟨S, hS⟩ : ∃ S, N + P = S := ⟨_, rfl⟩
          have eS : (N : Int) + (P : Int) = (S : Int) := by omega
          have wS : IntKind.i64.wrap ((N : Int) + (P : Int)) = (N : Int) + (P : Int) := IntWalk.i64_in _ (by omega)
          have HMA := Lib.hid hMA
          have HMB := Lib.hid hMB
          have HA0 := Lib.hid hA0
          have HRA0 := Lib.hid hr1
          have HRB := Lib.hid hr2
          have ha150 : MA ≤ 150 := by omega
          have hb150 : MB ≤ 150 := by omega
          have hN60 : N ≤ 60 := by omega
          have hP60 : P ≤ 60 := by omega
          rw [hMA] at HR1 HS1 ⊢
          rw [hMB] at HR2 HS2 ⊢
          clear hMA hMB hA0 hs1 hs2 hr1 hr2 hs1' hs2'
          go_enter Try.func8, Try.ntmps8
          go_wp2_with fail
          refine HS1.out.mono ?_
          rintro e w1 ⟨rfl, hw1⟩
          have hw1 := hw1.symm; subst hw1
          go_wp2_with fail
          refine HS2.out.mono ?_
          rintro e w1 ⟨rfl, hw1⟩
          have hw1 := hw1.symm; subst hw1
          go_wp2_with fail
          refine HR1.out.mono ?_
          rintro e w1 ⟨rfl, hb1⟩
          go_wp2_with fail
          refine (HR2.out w1 (HK.out.below hb1)).mono ?_
          rintro e w1' ⟨rfl, hb1'⟩
          have HB1 := Lib.hid (hb1.trans (hb1'.mono hb1.size))
          have HL1 := Lib.hid ((HL.out.below hb1).below hb1')
          have HK1 := Lib.hid ((HK.out.below hb1).below hb1')
          clear hb1 hb1' HR1 HR2
          obtain ⟨w0, hw0⟩ : ∃ w0, w0 = w1' := ⟨_, rfl⟩
          subst hw0
          go_wp2_with (at_builtin; refine wpList_appEs (v := .slice none 0 0) (l := []) (m := castE ea) (B := A) (c := c) (base := w0.heap.size) rfl _ _ rfl rfl (OE.nil _ _) (by rw [castE_length, HMA.out]; rfl) HL1.out HA0.out (by rw [castE_length, HMA.out]; simp; omega) (Nat.le_refl _) ?_; intro A3 c3 w3 hown3 hgr3; rw [List.nil_append] at hown3 ⊢; rw [castE_length, HMA.out] at hown3 ⊢; have HOW3 := Lib.hid hown3; have HL3 := Lib.hid (OE.low (OE.nil w0.heap.size w0) (Below.refl w0.heap.size w0) hgr3 (Nat.le_refl _) (Nat.le_refl _)); clear hown3 hgr3)
          have HK0 := HK1
          go_loopw [9, 10] (fun s y wr => ∃ (j q : Nat) (A' : Option Addr) (c' : Nat), j ≤ MB ∧ s = .slice A' q c' ∧ y = .int .i64 j ∧ Hid (q = MA + j) ∧ Hid (OE w0.heap.size wr (.slice A' q c') (castE (ea ++ shE N (eb.take j)))) ∧ Hid (Below w0.heap.size w0 wr)) (fun _ y _ => MB - (intOf y).toNat)
          case atStart => exact ⟨0, MA, A3, c3, Nat.zero_le _, rfl, rfl, rfl, by show OE _ _ _ _; simpa [shE] using HOW3.out, HL3.out⟩
          case round =>
            obtain ⟨j, q, A', c', hj, rfl, rfl, HQ, HO, HB⟩ := hrel
            by_cases h1 : j < MB
            · obtain ⟨⟨u, v⟩, he⟩ : ∃ e, eb[j]? = some e := ⟨_, List.getElem?_eq_getElem (by have := HMB.out; omega)⟩
              obtain ⟨g, o, rfl, hc⟩ := (HK0.out.below HB.out) (by rw [castE_length]; have := HMB.out; omega)
              obtain ⟨c1, c2⟩ := hc j _ (castE_get he)
              have huv := heb _ (List.mem_of_getElem? he)
              have HE := Lib.hid he
              have q1 : (j : Int) < (MB : Int) := by omega
              have wj : IntKind.i64.wrap (j : Int) = (j : Int) := IntWalk.i64_in _ (by omega)
              have wu : IntKind.i64.wrap ((u : Int) + (N : Int)) = (u : Int) + (N : Int) := IntWalk.i64_in _ (by simp only at huv; omega)
              have wv : IntKind.i64.wrap ((v : Int) + (N : Int)) = (v : Int) + (N : Int) := IntWalk.i64_in _ (by simp only at huv; omega)
              clear he hc huv
              go_wp2_with fail
              refine wp_region_held_drew (S := (fun w' => w'.cell? ⟨g, o + j * 2, none⟩ = some (.int .i64 (u : Nat)) ∧ w'.cell? ⟨g, o + j * 2 + 1, none⟩ = some (.int .i64 (v : Nat)))) (by kernel_rfl) ⟨c1, c2⟩ (fun hHeld => ?_)
              refine wpAnyH_take (i := 0) (v := ?vs0) rfl (by kernel_rfl) (by kernel_rfl) (by kernel_rfl) (fun _ _ _ h => h) (Or.inl ⟨by rfl, ?ys0⟩) (by assumption) ?rs0
              case ys0 =>
                intro w hSw
                (try dsimp only at hSw)
                go_simp
                first | done | with_reducible rfl
              try simp only [Act.put, List.getElem_toArray, List.getElem_cons_zero, List.setIfInBounds_toArray, List.set_cons_zero, List.set_cons_succ]
              refine wpAnyH_take (i := 1) (v := ?vs1) rfl (by kernel_rfl) (by kernel_rfl) (by kernel_rfl) (fun _ _ _ h => h) (Or.inl ⟨by rfl, ?ys1⟩) (by assumption) ?rs1
              case ys1 =>
                intro w hSw
                (try dsimp only at hSw)
                go_simp
                first | done | with_reducible rfl
              try simp only [Act.put, List.getElem_toArray, List.getElem_cons_zero, List.getElem_cons_succ, List.setIfInBounds_toArray, List.set_cons_zero, List.set_cons_succ]
              refine wpAnyH_take (i := 2) (v := ?vs2) rfl (by kernel_rfl) (by kernel_rfl) (by kernel_rfl) (fun _ _ _ h => h) (Or.inl ⟨by rfl, ?ys2⟩) (by assumption) ?rs2
              case ys2 =>
                intro w hSw
                (try dsimp only at hSw)
                go_simp
                first | done | with_reducible rfl
              try simp only [Act.put, List.getElem_toArray, List.getElem_cons_zero, List.getElem_cons_succ, List.setIfInBounds_toArray, List.set_cons_zero, List.set_cons_succ]
              refine wpAnyH_take (i := 3) (v := ?vs3) rfl (by kernel_rfl) (by kernel_rfl) (by kernel_rfl) (fun _ _ _ h => h) (Or.inl ⟨by rfl, ?ys3⟩) (by assumption) ?rs3
              case ys3 =>
                intro w hSw
                (try dsimp only at hSw)
                go_simp
                first | done | with_reducible rfl
              try simp only [Act.put, List.getElem_toArray, List.getElem_cons_zero, List.getElem_cons_succ, List.setIfInBounds_toArray, List.set_cons_zero, List.set_cons_succ]
              refine wpAnyH_take (i := 4) (v := ?vs4) rfl (by kernel_rfl) (by kernel_rfl) (by kernel_rfl) (fun _ _ _ h => h) (Or.inl ⟨by rfl, ?ys4⟩) (by assumption) ?rs4
              case ys4 =>
                intro w hSw
                (try dsimp only at hSw)
                go_simp
                first | done | with_reducible rfl
              try simp only [Act.put, List.getElem_toArray, List.getElem_cons_zero, List.getElem_cons_succ, List.setIfInBounds_toArray, List.set_cons_zero, List.set_cons_succ]
              refine wpAnyH_take (i := 5) (v := ?vs5) rfl (by kernel_rfl) (by kernel_rfl) (by kernel_rfl) (fun _ _ _ h => h) (Or.inl ⟨by rfl, ?ys5⟩) (by assumption) ?rs5
              case ys5 =>
                intro w hSw
                (try dsimp only at hSw)
                go_simp
                first | done | with_reducible rfl
              try simp only [Act.put, List.getElem_toArray, List.getElem_cons_zero, List.getElem_cons_succ, List.setIfInBounds_toArray, List.set_cons_zero, List.set_cons_succ]
              refine wpAnyH_take (i := 6) (v := ?vs6) rfl (by kernel_rfl) (by kernel_rfl) (by kernel_rfl) (fun _ _ _ h => h) (Or.inl ⟨by rfl, ?ys6⟩) (by assumption) ?rs6
              case ys6 =>
                intro w hSw
                (try dsimp only at hSw)
                go_simp
                first | done | with_reducible rfl
              try simp only [Act.put, List.getElem_toArray, List.getElem_cons_zero, List.getElem_cons_succ, List.setIfInBounds_toArray, List.set_cons_zero, List.set_cons_succ]
              refine wpAnyH_take (i := 7) (v := ?vs7) rfl (by kernel_rfl) (by kernel_rfl) (by kernel_rfl) (fun _ _ _ h => h) (Or.inl ⟨by rfl, ?ys7⟩) (by assumption) ?rs7
              case ys7 =>
                intro w hSw
                (try dsimp only at hSw)
                go_simp
                first | done | with_reducible rfl
              try simp only [Act.put, List.getElem_toArray, List.getElem_cons_zero, List.getElem_cons_succ, List.setIfInBounds_toArray, List.set_cons_zero, List.set_cons_succ]
              refine wpAnyH_take (i := 8) (v := ?vs8) rfl (by kernel_rfl) (by kernel_rfl) (by kernel_rfl) (fun _ _ _ h => h) (Or.inl ⟨by rfl, ?ys8⟩) (by assumption) ?rs8
              case ys8 =>
                intro w hSw
                (try dsimp only at hSw)
                go_simp
                first | done | with_reducible rfl
              try simp only [Act.put, List.getElem_toArray, List.getElem_cons_zero, List.getElem_cons_succ, List.setIfInBounds_toArray, List.set_cons_zero, List.set_cons_succ]
              refine wpAnyH_take (i := 9) (v := ?vs9) rfl (by kernel_rfl) (by kernel_rfl) (by kernel_rfl) (fun _ _ _ h => h) (Or.inl ⟨by rfl, ?ys9⟩) (by assumption) ?rs9
              case ys9 =>
                intro w hSw
                (try dsimp only at hSw)
                go_simp
                first | done | with_reducible rfl
              try simp only [Act.put, List.getElem_toArray, List.getElem_cons_zero, List.getElem_cons_succ, List.setIfInBounds_toArray, List.set_cons_zero, List.set_cons_succ]
              refine wpAnyH_take (i := 10) (v := ?vs10) rfl (by kernel_rfl) (by kernel_rfl) (by kernel_rfl) (fun _ _ _ h => h) (Or.inl ⟨by rfl, ?ys10⟩) (by assumption) ?rs10
              case ys10 =>
                intro w hSw
                (try dsimp only at hSw)
                go_simp
                first | done | with_reducible rfl
              try simp only [Act.put, List.getElem_toArray, List.getElem_cons_zero, List.getElem_cons_succ, List.setIfInBounds_toArray, List.set_cons_zero, List.set_cons_succ]
              refine wpAnyH_take (i := 11) (v := ?vs11) rfl (by kernel_rfl) (by kernel_rfl) (by kernel_rfl) (fun _ _ _ h => h) (Or.inl ⟨by rfl, ?ys11⟩) (by assumption) ?rs11
              case ys11 =>
                intro w hSw
                (try dsimp only at hSw)
                go_simp
                first | done | with_reducible rfl
              try simp only [Act.put, List.getElem_toArray, List.getElem_cons_zero, List.getElem_cons_succ, List.setIfInBounds_toArray, List.set_cons_zero, List.set_cons_succ]
              refine wpAnyH_take (i := 12) (v := ?vs12) rfl (by kernel_rfl) (by kernel_rfl) (by kernel_rfl) (fun _ _ _ h => h) (Or.inl ⟨by rfl, ?ys12⟩) (by assumption) ?rs12
              case ys12 =>
                intro w hSw
                (try dsimp only at hSw)
                go_simp
                first | done | with_reducible rfl
              try simp only [Act.put, List.getElem_toArray, List.getElem_cons_zero, List.getElem_cons_succ, List.setIfInBounds_toArray, List.set_cons_zero, List.set_cons_succ]
              refine wpAnyH_take (i := 13) (v := ?vs13) rfl (by kernel_rfl) (by kernel_rfl) (by kernel_rfl) (fun _ _ _ h => h) (Or.inl ⟨by rfl, ?ys13⟩) (by assumption) ?rs13
              case ys13 =>
                intro w hSw
                (try dsimp only at hSw)
                go_simp
                first | done | with_reducible rfl
              try simp only [Act.put, List.getElem_toArray, List.getElem_cons_zero, List.getElem_cons_succ, List.setIfInBounds_toArray, List.set_cons_zero, List.set_cons_succ]
              refine wpAnyH_take (i := 14) (v := ?vs14) rfl (by kernel_rfl) (by kernel_rfl) (by kernel_rfl) (fun _ _ _ h => h) (Or.inl ⟨by rfl, ?ys14⟩) (by assumption) ?rs14
              case ys14 =>
                intro w hSw
                (try dsimp only at hSw)
                go_simp
                first | done | with_reducible rfl
              try simp only [Act.put, List.getElem_toArray, List.getElem_cons_zero, List.getElem_cons_succ, List.setIfInBounds_toArray, List.set_cons_zero, List.set_cons_succ]
              refine wpAnyH_take (i := 15) (v := ?vs15) rfl (by kernel_rfl) (by kernel_rfl) (by kernel_rfl) (fun _ _ _ h => h) (Or.inl ⟨by rfl, ?ys15⟩) (by assumption) ?rs15
              case ys15 =>
                intro w hSw
                (try dsimp only at hSw)
                go_simp
                first | done | with_reducible rfl
              try simp only [Act.put, List.getElem_toArray, List.getElem_cons_zero, List.getElem_cons_succ, List.setIfInBounds_toArray, List.set_cons_zero, List.set_cons_succ]
              refine wpAnyH_ready (rs := [16]) (by kernel_rfl) (by simp) ?_
              refine AllReadyH.cons rfl (fun K hK => ?_) AllReadyH.nil
              go_simp
              have hb8 : Below wr.drew.heap.size wr.drew (wr.drew.alloc (.cells #[.int .i64 ((u : Int) + (N : Int)), .int .i64 ((v : Int) + (N : Int))] 35)) := (Below.refl _ _).alloc (Nat.le_refl _) _
              have p1 := (World.cell?_of_block (a := ⟨g, o + j * 2, none⟩) (hb8.block _ (World.block_lt_of_cell? wr (a := ⟨g, o + j * 2, none⟩) c1))).trans c1
              have p2 := (World.cell?_of_block (a := ⟨g, o + j * 2 + 1, none⟩) (hb8.block _ (World.block_lt_of_cell? wr (a := ⟨g, o + j * 2 + 1, none⟩) c2))).trans c2
              clear hb8
              refine hK.out _ _ ⟨p1, p2⟩ (fun hHeld => ?_)
              clear hK K
              try simp only [Act.put, List.getElem_toArray, List.getElem_cons_zero, List.getElem_cons_succ, List.setIfInBounds_toArray, List.set_cons_zero, List.set_cons_succ]
              refine wpAnyH_ready (rs := [17]) (by kernel_rfl) (by simp) ?_
              refine AllReadyH.cons rfl (fun K hK => ?_) AllReadyH.nil
              refine wp_appE (v := .slice A' q c') (e := ((u : Int) + (N : Int), (v : Int) + (N : Int))) (l := castE (ea ++ shE N (eb.take j))) (base := w0.heap.size) _ _ rfl rfl (HO.out.below (((Below.refl _ wr).drew).alloc (Nat.le_refl _) (.cells #[.int .i64 ((u : Int) + (N : Int)), .int .i64 ((v : Int) + (N : Int))] 35))) rfl (World.alloc_heap_new wr.drew _) (by rw [castE_length, List.length_append, shE_length, List.length_take, HMA.out, HMB.out]; omega) (by show w0.heap.size ≤ (wr.alloc (.cells #[.int .i64 ((u : Int) + (N : Int)), .int .i64 ((v : Int) + (N : Int))] 35)).heap.size; rw [World.size_alloc]; have := HB.out.size; omega) ?_
              intro A8 c8 w8 hown8 hgr8
              have hlow : Below w0.heap.size w0 w8 := OE.low (HO.out.below (((Below.refl _ wr).drew).alloc (Nat.le_refl _) (.cells #[.int .i64 ((u : Int) + (N : Int)), .int .i64 ((v : Int) + (N : Int))] 35))) ((HB.out.drew).alloc HB.out.size _) hgr8 (Nat.le_refl _) (by show w0.heap.size ≤ (wr.alloc (.cells #[.int .i64 ((u : Int) + (N : Int)), .int .i64 ((v : Int) + (N : Int))] 35)).heap.size; rw [World.size_alloc]; have := HB.out.size; omega)
              obtain ⟨g9, o9, e9, hc9⟩ := (HK0.out.below hlow) (by rw [castE_length]; have := HMB.out; omega)
              cases e9
              obtain ⟨z1, z2⟩ := hc9 j _ (castE_get HE.out)
              have HOW := Lib.hid hown8
              have HLOW := Lib.hid hlow
              clear hown8 hgr8 hlow hc9
              refine hK.out _ _ ⟨z1, z2⟩ (fun hHeld => ?_)
              clear hK K
              try simp only [Act.put, List.getElem_toArray, List.getElem_cons_zero, List.getElem_cons_succ, List.setIfInBounds_toArray, List.set_cons_zero, List.set_cons_succ]
              refine wpAnyH_take (i := 18) (v := ?vs18) rfl (by kernel_rfl) (by kernel_rfl) (by kernel_rfl) (fun _ _ _ h => h) (Or.inl ⟨by rfl, ?ys18⟩) (by assumption) ?rs18
              case ys18 =>
                intro w hSw
                (try dsimp only at hSw)
                go_simp
                first | done | with_reducible rfl
              try simp only [Act.put, List.getElem_toArray, List.getElem_cons_zero, List.getElem_cons_succ, List.setIfInBounds_toArray, List.set_cons_zero, List.set_cons_succ]
              refine wpAnyH_done (by kernel_rfl) ?_ _
              go_wp2_with fail
              go_roundw
              case rel =>
                have e1 : castE (ea ++ shE N (eb.take (j + 1))) = castE (ea ++ shE N (eb.take j)) ++ [((u : Int) + (N : Int), (v : Int) + (N : Int))] := by
                  rw [List.take_add_one, HE.out]
                  show castE (ea ++ shE N (eb.take j ++ [(u, v)])) = _
                  unfold shE
                  rw [List.map_append, ← List.append_assoc, castE_append]; rfl
                have e2 : (castE (ea ++ shE N (eb.take (j + 1)))).length = MA + (j + 1) := by rw [castE_length, List.length_append, shE_length, List.length_take, HMA.out, HMB.out]; omega
                refine ⟨j + 1, MA + (j + 1), A8, c8, by omega, ?_, by go_num, rfl, ?_, HLOW.out⟩
                · rw [← e2, e1]; simp
                · have h8 := HOW.out
                  rw [← e1, e2] at h8; exact h8
              case measure => simp [intOf]; omega
            · obtain rfl : j = MB := by omega
              have hO2 := HO.out
              rw [show eb.take j = eb by rw [← HMB.out, List.take_length]] at hO2
              obtain ⟨A4, c4, he4, hE4, _⟩ := hO2.form
              simp only [Value.slice.injEq] at he4
              obtain ⟨rfl, -, rfl⟩ := he4
              have hlq : (ea ++ shE N eb).length = q := by rw [List.length_append, shE_length, HMA.out, HMB.out, HQ.out]
              have hso : ∀ e ∈ ea ++ shE N eb, e.1 < S ∧ e.2 < S := by rw [← hS]; exact sides_ok hea heb
              have hri := rings_any S A' c' (ea ++ shE N eb) wr hE4 (by rw [hlq, HQ.out]; omega) (by omega) hso (rightB_cast (by omega) hso)
              have hde := fun (w' : World) (h : EdgesAt w' A' (castE (ea ++ shE N eb))) => depths_any S A' c' (ea ++ shE N eb) w' h (by rw [hlq, HQ.out]; omega) (by omega) hso (rightB_cast (by omega) hso)
              rw [hlq] at hri hde
              have hrb := fun (w' : World) (h : EdgesAt w' B (castE eb)) => rings_any P B d eb w' h (by rw [HMB.out]; omega) (by omega) heb HRB.out
              rw [HMB.out] at hrb
              have HRI := Lib.hid hri
              have HDE := Lib.hid hde
              have HRBB := Lib.hid hrb
              have HE4 := Lib.hid hE4
              have HLB0 := Lib.hid (HK0.out.below HB.out)
              have HLA0 := Lib.hid (HL1.out.below HB.out)
              have HSR := Lib.hid (show RT S (ea ++ shE N eb) = RT N ea ++ (RT P eb).map (· + N) by rw [← hS]; exact sides_R hea heb)
              have HSD := Lib.hid (show DT S (ea ++ shE N eb) = DT N ea ++ DT P eb by rw [← hS]; exact sides_D hea heb)
              clear hO2 hE4 hlq hso hri hde hrb
              go_wp2_with fail
              refine HRI.out.mono ?_
              rintro e w4 ⟨gr, rfl, hgr, hb4⟩
              rw [HSR.out] at hgr
              have HB4 := Lib.hid hb4
              have HGR := Lib.hid hgr
              clear hb4 hgr
              go_wp2_with fail
              refine (HDE.out _ (HE4.out.below HB4.out)).mono ?_
              rintro e w5 ⟨gd, rfl, hgd, hb5⟩
              rw [HSD.out] at hgd
              have HB5 := Lib.hid (HB4.out.trans (hb5.mono HB4.out.size))
              have HGD := Lib.hid hgd
              have HGR5 := Lib.hid ((hb5.block _ (Array.getElem?_eq_some_iff.1 HGR.out).1).trans HGR.out)
              clear hb5 hgd
              go_wp2_with fail
              refine (HRBB.out _ (HLB0.out.below HB5.out)).mono ?_
              rintro e w6 ⟨gx, rfl, hgx, hb6⟩
              obtain ⟨X, hX, eX⟩ := RT_least heb
              have HB6 := Lib.hid (HB5.out.trans (hb6.mono HB5.out.size))
              have HGX := Lib.hid hgx
              have HGR6 := Lib.hid ((hb6.block _ (Array.getElem?_eq_some_iff.1 HGR5.out).1).trans HGR5.out)
              have HGD6 := Lib.hid ((hb6.block _ (Array.getElem?_eq_some_iff.1 HGD.out).1).trans HGD.out)
              clear hb6 hgx
              obtain ⟨AD, hAD1, hAD2⟩ : ∃ AD, (if S = N then (some ⟨gd, 0, none⟩ : Option Addr) else some ⟨gd, N, none⟩) = AD ∧ (0 < P → AD = some ⟨gd, N, none⟩) := ⟨_, rfl, fun h => by rw [if_neg (by omega)]⟩
              have hra := fun (w' : World) (h : EdgesAt w' A (castE ea)) => rings_any N A c ea w' h (by rw [HMA.out]; omega) (by omega) hea HRA0.out
              have hda := fun (w' : World) (h : EdgesAt w' A (castE ea)) => depths_any N A c ea w' h (by rw [HMA.out]; omega) (by omega) hea HRA0.out
              have hdb := fun (w' : World) (h : EdgesAt w' B (castE eb)) => depths_any P B d eb w' h (by rw [HMB.out]; omega) (by omega) heb HRB.out
              rw [HMA.out] at hra hda
              rw [HMB.out] at hdb
              have HRA := Lib.hid hra
              have HDA := Lib.hid hda
              have HDB := Lib.hid hdb
              obtain ⟨wr, hwr⟩ : ∃ wr, wr = w6 := ⟨_, rfl⟩
              subst hwr
              have HLA := Lib.hid ((HLA0.out.below HB6.out).below ((Below.refl _ wr).drew))
              have HLB := Lib.hid ((HLB0.out.below HB6.out).below ((Below.refl _ wr).drew))
              have HIR := Lib.hid (ints_front (w := wr.drew) HGR6.out)
              have HID := Lib.hid (ints_front (w := wr.drew) HGD6.out)
              have HIE := Lib.hid (ints_rest (w := wr.drew) (DT_length hea) (DT_length heb) HGD6.out hAD2)
              have HX := Lib.hid eX
              have HXL := Lib.hid (fun (i : Nat) (hi : i < P) => (hX i hi).1.1.lt.2)
              have eSN : S - N = P := by omega
              have wS2 : IntKind.i64.wrap (S : Int) = (S : Int) := IntWalk.i64_in _ (by omega)
              have kNS : (N : Int) ≤ (S : Int) := by omega
              have n1 : ((S : Int) != (S : Int)) = false := by simp
              have n2 : ((P : Int) != (P : Int)) = false := by simp
              clear hra hda hdb hAD2 eX hX
              go_wp2_with fail
              refine wp_region_held_drew (S := (fun w' => True)) (by kernel_rfl) ⟨⟩ (fun hHeld => ?_)
              refine wpAnyH_take (i := 0) (v := ?vr0) rfl (by kernel_rfl) (by kernel_rfl) (by kernel_rfl) (fun _ _ _ h => h) (Or.inl ⟨by rfl, ?yr0⟩) (by assumption) ?rr0
              case yr0 =>
                intro w hSw
                (try dsimp only at hSw)
                go_simp
                first | done | with_reducible rfl
              try simp only [Act.put, List.getElem_toArray, List.getElem_cons_zero, List.setIfInBounds_toArray, List.set_cons_zero, List.set_cons_succ]
              refine wpAnyH_take (i := 1) (v := ?vr1) rfl (by kernel_rfl) (by kernel_rfl) (by kernel_rfl) (fun _ _ _ h => h) (Or.inl ⟨by rfl, ?yr1⟩) (by assumption) ?rr1
              case yr1 =>
                intro w hSw
                (try dsimp only at hSw)
                go_simp
                first | done | with_reducible rfl
              try simp only [Act.put, List.getElem_toArray, List.getElem_cons_zero, List.getElem_cons_succ, List.setIfInBounds_toArray, List.set_cons_zero, List.set_cons_succ]
              refine wpAnyH_take (i := 2) (v := ?vr2) rfl (by kernel_rfl) (by kernel_rfl) (by kernel_rfl) (fun _ _ _ h => h) (Or.inl ⟨by rfl, ?yr2⟩) (by assumption) ?rr2
              case yr2 =>
                intro w hSw
                (try dsimp only at hSw)
                go_simp
                first | done | with_reducible rfl
              try simp only [Act.put, List.getElem_toArray, List.getElem_cons_zero, List.getElem_cons_succ, List.setIfInBounds_toArray, List.set_cons_zero, List.set_cons_succ]
              refine wpAnyH_take (i := 3) (v := ?vr3) rfl (by kernel_rfl) (by kernel_rfl) (by kernel_rfl) (fun _ _ _ h => h) (Or.inl ⟨by rfl, ?yr3⟩) (by assumption) ?rr3
              case yr3 =>
                intro w hSw
                (try dsimp only at hSw)
                go_simp
                first | done | with_reducible rfl
              try simp only [Act.put, List.getElem_toArray, List.getElem_cons_zero, List.getElem_cons_succ, List.setIfInBounds_toArray, List.set_cons_zero, List.set_cons_succ]
              refine wpAnyH_take (i := 4) (v := Value.int .i64 (S : Int)) rfl (by kernel_rfl) (by kernel_rfl) (by kernel_rfl) (fun _ _ _ h => h) (Or.inl ⟨by rfl, ?yr4⟩) (by assumption) ?rr4
              case yr4 =>
                intro w hSw
                (try dsimp only at hSw)
                go_simp
                first | done | with_reducible rfl
              try simp only [Act.put, List.getElem_toArray, List.getElem_cons_zero, List.getElem_cons_succ, List.setIfInBounds_toArray, List.set_cons_zero, List.set_cons_succ]
              refine wpAnyH_take (i := 5) (v := Value.bool false) rfl (by kernel_rfl) (by kernel_rfl) (by kernel_rfl) (fun _ _ _ h => h) (Or.inl ⟨by rfl, ?yr5⟩) (by assumption) ?rr5
              case yr5 =>
                intro w hSw
                (try dsimp only at hSw)
                go_simp
                first | done | with_reducible rfl
              try simp only [Act.put, List.getElem_toArray, List.getElem_cons_zero, List.getElem_cons_succ, List.setIfInBounds_toArray, List.set_cons_zero, List.set_cons_succ]
              refine wpAnyH_take (i := 6) (v := ?vr6) rfl (by kernel_rfl) (by kernel_rfl) (by kernel_rfl) (fun _ _ _ h => h) (Or.inl ⟨by rfl, ?yr6⟩) (by assumption) ?rr6
              case yr6 =>
                intro w hSw
                (try dsimp only at hSw)
                go_simp
                first | done | with_reducible rfl
              try simp only [Act.put, List.getElem_toArray, List.getElem_cons_zero, List.getElem_cons_succ, List.setIfInBounds_toArray, List.set_cons_zero, List.set_cons_succ]
              refine wpAnyH_take (i := 7) (v := ?vr7) rfl (by kernel_rfl) (by kernel_rfl) (by kernel_rfl) (fun _ _ _ h => h) (Or.inl ⟨by rfl, ?yr7⟩) (by assumption) ?rr7
              case yr7 =>
                intro w hSw
                (try dsimp only at hSw)
                go_simp
                first | done | with_reducible rfl
              try simp only [Act.put, List.getElem_toArray, List.getElem_cons_zero, List.getElem_cons_succ, List.setIfInBounds_toArray, List.set_cons_zero, List.set_cons_succ]
              refine wpAnyH_take (i := 8) (v := ?vr8) rfl (by kernel_rfl) (by kernel_rfl) (by kernel_rfl) (fun _ _ _ h => h) (Or.inl ⟨by rfl, ?yr8⟩) (by assumption) ?rr8
              case yr8 =>
                intro w hSw
                (try dsimp only at hSw)
                go_simp
                first | done | with_reducible rfl
              try simp only [Act.put, List.getElem_toArray, List.getElem_cons_zero, List.getElem_cons_succ, List.setIfInBounds_toArray, List.set_cons_zero, List.set_cons_succ]
              refine wpAnyH_take (i := 9) (v := ?vr9) rfl (by kernel_rfl) (by kernel_rfl) (by kernel_rfl) (fun _ _ _ h => h) (Or.inl ⟨by rfl, ?yr9⟩) (by assumption) ?rr9
              case yr9 =>
                intro w hSw
                (try dsimp only at hSw)
                go_simp
                first | done | with_reducible rfl
              try simp only [Act.put, List.getElem_toArray, List.getElem_cons_zero, List.getElem_cons_succ, List.setIfInBounds_toArray, List.set_cons_zero, List.set_cons_succ]
              refine wpAnyH_take (i := 10) (v := ?vr10) rfl (by kernel_rfl) (by kernel_rfl) (by kernel_rfl) (fun _ _ _ h => h) (Or.inl ⟨by rfl, ?yr10⟩) (by assumption) ?rr10
              case yr10 =>
                intro w hSw
                (try dsimp only at hSw)
                go_simp
                first | done | with_reducible rfl
              try simp only [Act.put, List.getElem_toArray, List.getElem_cons_zero, List.getElem_cons_succ, List.setIfInBounds_toArray, List.set_cons_zero, List.set_cons_succ]
              refine wpAnyH_take (i := 11) (v := Value.int .i64 (S : Int)) rfl (by kernel_rfl) (by kernel_rfl) (by kernel_rfl) (fun _ _ _ h => h) (Or.inl ⟨by rfl, ?yr11⟩) (by assumption) ?rr11
              case yr11 =>
                intro w hSw
                (try dsimp only at hSw)
                go_simp
                first | done | with_reducible rfl
              try simp only [Act.put, List.getElem_toArray, List.getElem_cons_zero, List.getElem_cons_succ, List.setIfInBounds_toArray, List.set_cons_zero, List.set_cons_succ]
              refine wpAnyH_take (i := 12) (v := Value.bool false) rfl (by kernel_rfl) (by kernel_rfl) (by kernel_rfl) (fun _ _ _ h => h) (Or.inl ⟨by rfl, ?yr12⟩) (by assumption) ?rr12
              case yr12 =>
                intro w hSw
                (try dsimp only at hSw)
                go_simp
                first | done | with_reducible rfl
              try simp only [Act.put, List.getElem_toArray, List.getElem_cons_zero, List.getElem_cons_succ, List.setIfInBounds_toArray, List.set_cons_zero, List.set_cons_succ]
              refine wpAnyH_take (i := 13) (v := ?vr13) rfl (by kernel_rfl) (by kernel_rfl) (by kernel_rfl) (fun _ _ _ h => h) (Or.inl ⟨by rfl, ?yr13⟩) (by assumption) ?rr13
              case yr13 =>
                intro w hSw
                (try dsimp only at hSw)
                go_simp
                first | done | with_reducible rfl
              try simp only [Act.put, List.getElem_toArray, List.getElem_cons_zero, List.getElem_cons_succ, List.setIfInBounds_toArray, List.set_cons_zero, List.set_cons_succ]
              refine wpAnyH_take (i := 14) (v := ?vr14) rfl (by kernel_rfl) (by kernel_rfl) (by kernel_rfl) (fun _ _ _ h => h) (Or.inl ⟨by rfl, ?yr14⟩) (by assumption) ?rr14
              case yr14 =>
                intro w hSw
                (try dsimp only at hSw)
                go_simp
                first | done | with_reducible rfl
              try simp only [Act.put, List.getElem_toArray, List.getElem_cons_zero, List.getElem_cons_succ, List.setIfInBounds_toArray, List.set_cons_zero, List.set_cons_succ]
              refine wpAnyH_take (i := 15) (v := ?vr15) rfl (by kernel_rfl) (by kernel_rfl) (by kernel_rfl) (fun _ _ _ h => h) (Or.inl ⟨by rfl, ?yr15⟩) (by assumption) ?rr15
              case yr15 =>
                intro w hSw
                (try dsimp only at hSw)
                go_simp
                first | done | with_reducible rfl
              try simp only [Act.put, List.getElem_toArray, List.getElem_cons_zero, List.getElem_cons_succ, List.setIfInBounds_toArray, List.set_cons_zero, List.set_cons_succ]
              refine wpAnyH_take (i := 16) (v := ?vr16) rfl (by kernel_rfl) (by kernel_rfl) (by kernel_rfl) (fun _ _ _ h => h) (Or.inl ⟨by rfl, ?yr16⟩) (by assumption) ?rr16
              case yr16 =>
                intro w hSw
                (try dsimp only at hSw)
                go_simp
                first | done | with_reducible rfl
              try simp only [Act.put, List.getElem_toArray, List.getElem_cons_zero, List.getElem_cons_succ, List.setIfInBounds_toArray, List.set_cons_zero, List.set_cons_succ]
              refine wpAnyH_take (i := 17) (v := ?vr17) rfl (by kernel_rfl) (by kernel_rfl) (by kernel_rfl) (fun _ _ _ h => h) (Or.inl ⟨by rfl, ?yr17⟩) (by assumption) ?rr17
              case yr17 =>
                intro w hSw
                (try dsimp only at hSw)
                go_simp
                first | done | with_reducible rfl
              try simp only [Act.put, List.getElem_toArray, List.getElem_cons_zero, List.getElem_cons_succ, List.setIfInBounds_toArray, List.set_cons_zero, List.set_cons_succ]
              refine wpAnyH_take (i := 18) (v := Value.bool false) rfl (by kernel_rfl) (by kernel_rfl) (by kernel_rfl) (fun _ _ _ h => h) (Or.inl ⟨by rfl, ?yr18⟩) (by assumption) ?rr18
              case yr18 =>
                intro w hSw
                (try dsimp only at hSw)
                go_simp
                first | done | with_reducible rfl
              try simp only [Act.put, List.getElem_toArray, List.getElem_cons_zero, List.getElem_cons_succ, List.setIfInBounds_toArray, List.set_cons_zero, List.set_cons_succ]
              refine wpAnyH_take (i := 19) (v := ?vr19) rfl (by kernel_rfl) (by kernel_rfl) (by kernel_rfl) (fun _ _ _ h => h) (Or.inl ⟨by rfl, ?yr19⟩) (by assumption) ?rr19
              case yr19 =>
                intro w hSw
                (try dsimp only at hSw)
                go_simp
                first | done | with_reducible rfl
              try simp only [Act.put, List.getElem_toArray, List.getElem_cons_zero, List.getElem_cons_succ, List.setIfInBounds_toArray, List.set_cons_zero, List.set_cons_succ]
              refine wpAnyH_take (i := 20) (v := ?vr20) rfl (by kernel_rfl) (by kernel_rfl) (by kernel_rfl) (fun _ _ _ h => h) (Or.inl ⟨by rfl, ?yr20⟩) (by assumption) ?rr20
              case yr20 =>
                intro w hSw
                (try dsimp only at hSw)
                go_simp
                first | done | with_reducible rfl
              try simp only [Act.put, List.getElem_toArray, List.getElem_cons_zero, List.getElem_cons_succ, List.setIfInBounds_toArray, List.set_cons_zero, List.set_cons_succ]
              refine wpAnyH_take (i := 21) (v := ?vr21) rfl (by kernel_rfl) (by kernel_rfl) (by kernel_rfl) (fun _ _ _ h => h) (Or.inl ⟨by rfl, ?yr21⟩) (by assumption) ?rr21
              case yr21 =>
                intro w hSw
                (try dsimp only at hSw)
                go_simp
                first | done | with_reducible rfl
              try simp only [Act.put, List.getElem_toArray, List.getElem_cons_zero, List.getElem_cons_succ, List.setIfInBounds_toArray, List.set_cons_zero, List.set_cons_succ]
              refine wpAnyH_take (i := 22) (v := ?vr22) rfl (by kernel_rfl) (by kernel_rfl) (by kernel_rfl) (fun _ _ _ h => h) (Or.inl ⟨by rfl, ?yr22⟩) (by assumption) ?rr22
              case yr22 =>
                intro w hSw
                (try dsimp only at hSw)
                go_simp
                first | done | with_reducible rfl
              try simp only [Act.put, List.getElem_toArray, List.getElem_cons_zero, List.getElem_cons_succ, List.setIfInBounds_toArray, List.set_cons_zero, List.set_cons_succ]
              refine wpAnyH_take (i := 23) (v := ?vr23) rfl (by kernel_rfl) (by kernel_rfl) (by kernel_rfl) (fun _ _ _ h => h) (Or.inl ⟨by rfl, ?yr23⟩) (by assumption) ?rr23
              case yr23 =>
                intro w hSw
                (try dsimp only at hSw)
                go_simp
                first | done | with_reducible rfl
              try simp only [Act.put, List.getElem_toArray, List.getElem_cons_zero, List.getElem_cons_succ, List.setIfInBounds_toArray, List.set_cons_zero, List.set_cons_succ]
              refine wpAnyH_take (i := 24) (v := ?vr24) rfl (by kernel_rfl) (by kernel_rfl) (by kernel_rfl) (fun _ _ _ h => h) (Or.inl ⟨by rfl, ?yr24⟩) (by assumption) ?rr24
              case yr24 =>
                intro w hSw
                (try dsimp only at hSw)
                go_simp
                first | done | with_reducible rfl
              try simp only [Act.put, List.getElem_toArray, List.getElem_cons_zero, List.getElem_cons_succ, List.setIfInBounds_toArray, List.set_cons_zero, List.set_cons_succ]
              refine wpAnyH_take (i := 25) (v := ?vr25) rfl (by kernel_rfl) (by kernel_rfl) (by kernel_rfl) (fun _ _ _ h => h) (Or.inl ⟨by rfl, ?yr25⟩) (by assumption) ?rr25
              case yr25 =>
                intro w hSw
                (try dsimp only at hSw)
                go_simp
                first | done | with_reducible rfl
              try simp only [Act.put, List.getElem_toArray, List.getElem_cons_zero, List.getElem_cons_succ, List.setIfInBounds_toArray, List.set_cons_zero, List.set_cons_succ]
              refine wpAnyH_ready (rs := [26]) (by kernel_rfl) (by simp) ?_
              refine AllReadyH.cons rfl (fun K hK => ?_) AllReadyH.nil
              go_simp
              refine (HRA.out wr.drew HLA.out).mono ?_
              rintro e u1 ⟨g1, rfl, hg1, hb1⟩
              go_wp2_with fail
              have HU1 := Lib.hid hb1
              have HG1 := Lib.hid hg1
              clear hb1 hg1
              refine hK.out _ _ trivial (fun hHeld => ?_)
              clear hK K
              try simp only [Act.put, List.getElem_toArray, List.getElem_cons_zero, List.getElem_cons_succ, List.setIfInBounds_toArray, List.set_cons_zero, List.set_cons_succ]
              refine wpAnyH_ready (rs := [27]) (by kernel_rfl) (by simp) ?_
              refine AllReadyH.cons rfl (fun K hK => ?_) AllReadyH.nil
              go_simp
              have hsm := sameints_any (RT N ea) (RT N ea) (some ⟨gr, 0, none⟩) (some ⟨g1, 0, none⟩) S N u1 (HIR.out.below HU1.out) (IntsAt.block HG1.out) (by rw [RT_length]; omega) (by rw [RT_length]; omega)
              rw [RT_length, decide_eq_true rfl] at hsm
              refine hsm.mono ?_
              rintro e u2 ⟨rfl, hb2⟩
              go_wp2_with fail
              have HU2 := Lib.hid (HU1.out.trans (hb2.mono HU1.out.size))
              clear hb2 hsm
              refine hK.out _ _ trivial (fun hHeld => ?_)
              clear hK K
              try simp only [Act.put, List.getElem_toArray, List.getElem_cons_zero, List.getElem_cons_succ, List.setIfInBounds_toArray, List.set_cons_zero, List.set_cons_succ]
              refine wpAnyH_take (i := 28) (v := ?vr28) rfl (by kernel_rfl) (by kernel_rfl) (by kernel_rfl) (fun _ _ _ h => h) (Or.inl ⟨by rfl, ?yr28⟩) (by assumption) ?rr28
              case yr28 =>
                intro w hSw
                (try dsimp only at hSw)
                go_simp
                first | done | with_reducible rfl
              try simp only [Act.put, List.getElem_toArray, List.getElem_cons_zero, List.getElem_cons_succ, List.setIfInBounds_toArray, List.set_cons_zero, List.set_cons_succ]
              refine wpAnyH_take (i := 29) (v := ?vr29) rfl (by kernel_rfl) (by kernel_rfl) (by kernel_rfl) (fun _ _ _ h => h) (Or.inl ⟨by rfl, ?yr29⟩) (by assumption) ?rr29
              case yr29 =>
                intro w hSw
                (try dsimp only at hSw)
                go_simp
                first | done | with_reducible rfl
              try simp only [Act.put, List.getElem_toArray, List.getElem_cons_zero, List.getElem_cons_succ, List.setIfInBounds_toArray, List.set_cons_zero, List.set_cons_succ]
              refine wpAnyH_take (i := 30) (v := ?vr30) rfl (by kernel_rfl) (by kernel_rfl) (by kernel_rfl) (fun _ _ _ h => h) (Or.inl ⟨by rfl, ?yr30⟩) (by assumption) ?rr30
              case yr30 =>
                intro w hSw
                (try dsimp only at hSw)
                go_simp
                first | done | with_reducible rfl
              try simp only [Act.put, List.getElem_toArray, List.getElem_cons_zero, List.getElem_cons_succ, List.setIfInBounds_toArray, List.set_cons_zero, List.set_cons_succ]
              refine wpAnyH_take (i := 31) (v := ?vr31) rfl (by kernel_rfl) (by kernel_rfl) (by kernel_rfl) (fun _ _ _ h => h) (Or.inl ⟨by rfl, ?yr31⟩) (by assumption) ?rr31
              case yr31 =>
                intro w hSw
                (try dsimp only at hSw)
                go_simp
                first | done | with_reducible rfl
              try simp only [Act.put, List.getElem_toArray, List.getElem_cons_zero, List.getElem_cons_succ, List.setIfInBounds_toArray, List.set_cons_zero, List.set_cons_succ]
              refine wpAnyH_take (i := 32) (v := ?vr32) rfl (by kernel_rfl) (by kernel_rfl) (by kernel_rfl) (fun _ _ _ h => h) (Or.inl ⟨by rfl, ?yr32⟩) (by assumption) ?rr32
              case yr32 =>
                intro w hSw
                (try dsimp only at hSw)
                go_simp
                first | done | with_reducible rfl
              try simp only [Act.put, List.getElem_toArray, List.getElem_cons_zero, List.getElem_cons_succ, List.setIfInBounds_toArray, List.set_cons_zero, List.set_cons_succ]
              refine wpAnyH_take (i := 33) (v := ?vr33) rfl (by kernel_rfl) (by kernel_rfl) (by kernel_rfl) (fun _ _ _ h => h) (Or.inl ⟨by rfl, ?yr33⟩) (by assumption) ?rr33
              case yr33 =>
                intro w hSw
                (try dsimp only at hSw)
                go_simp
                first | done | with_reducible rfl
              try simp only [Act.put, List.getElem_toArray, List.getElem_cons_zero, List.getElem_cons_succ, List.setIfInBounds_toArray, List.set_cons_zero, List.set_cons_succ]
              refine wpAnyH_take (i := 34) (v := ?vr34) rfl (by kernel_rfl) (by kernel_rfl) (by kernel_rfl) (fun _ _ _ h => h) (Or.inl ⟨by rfl, ?yr34⟩) (by assumption) ?rr34
              case yr34 =>
                intro w hSw
                (try dsimp only at hSw)
                go_simp
                first | done | with_reducible rfl
              try simp only [Act.put, List.getElem_toArray, List.getElem_cons_zero, List.getElem_cons_succ, List.setIfInBounds_toArray, List.set_cons_zero, List.set_cons_succ]
              refine wpAnyH_take (i := 35) (v := ?vr35) rfl (by kernel_rfl) (by kernel_rfl) (by kernel_rfl) (fun _ _ _ h => h) (Or.inl ⟨by rfl, ?yr35⟩) (by assumption) ?rr35
              case yr35 =>
                intro w hSw
                (try dsimp only at hSw)
                go_simp
                first | done | with_reducible rfl
              try simp only [Act.put, List.getElem_toArray, List.getElem_cons_zero, List.getElem_cons_succ, List.setIfInBounds_toArray, List.set_cons_zero, List.set_cons_succ]
              refine wpAnyH_ready (rs := [36]) (by kernel_rfl) (by simp) ?_
              refine AllReadyH.cons rfl (fun K hK => ?_) AllReadyH.nil
              go_simp
              refine (HDA.out u2 (HLA.out.below HU2.out)).mono ?_
              rintro e u3 ⟨g3, rfl, hg3, hb3⟩
              go_wp2_with fail
              have HU3 := Lib.hid (HU2.out.trans (hb3.mono HU2.out.size))
              have HG3 := Lib.hid hg3
              clear hb3 hg3
              refine hK.out _ _ trivial (fun hHeld => ?_)
              clear hK K
              try simp only [Act.put, List.getElem_toArray, List.getElem_cons_zero, List.getElem_cons_succ, List.setIfInBounds_toArray, List.set_cons_zero, List.set_cons_succ]
              refine wpAnyH_ready (rs := [37]) (by kernel_rfl) (by simp) ?_
              refine AllReadyH.cons rfl (fun K hK => ?_) AllReadyH.nil
              go_simp
              have hsm := sameints_any (DT N ea) (DT N ea) (some ⟨gd, 0, none⟩) (some ⟨g3, 0, none⟩) S N u3 (HID.out.below HU3.out) (IntsAt.block HG3.out) (by rw [DT_length hea]; omega) (by rw [DT_length hea]; omega)
              rw [DT_length hea, decide_eq_true rfl] at hsm
              refine hsm.mono ?_
              rintro e u4 ⟨rfl, hb4⟩
              go_wp2_with fail
              have HU4 := Lib.hid (HU3.out.trans (hb4.mono HU3.out.size))
              clear hb4 hsm
              refine hK.out _ _ trivial (fun hHeld => ?_)
              clear hK K
              try simp only [Act.put, List.getElem_toArray, List.getElem_cons_zero, List.getElem_cons_succ, List.setIfInBounds_toArray, List.set_cons_zero, List.set_cons_succ]
              refine wpAnyH_take (i := 38) (v := ?vr38) rfl (by kernel_rfl) (by kernel_rfl) (by kernel_rfl) (fun _ _ _ h => h) (Or.inl ⟨by rfl, ?yr38⟩) (by assumption) ?rr38
              case yr38 =>
                intro w hSw
                (try dsimp only at hSw)
                go_simp
                first | done | with_reducible rfl
              try simp only [Act.put, List.getElem_toArray, List.getElem_cons_zero, List.getElem_cons_succ, List.setIfInBounds_toArray, List.set_cons_zero, List.set_cons_succ]
              refine wpAnyH_take (i := 39) (v := ?vr39) rfl (by kernel_rfl) (by kernel_rfl) (by kernel_rfl) (fun _ _ _ h => h) (Or.inl ⟨by rfl, ?yr39⟩) (by assumption) ?rr39
              case yr39 =>
                intro w hSw
                (try dsimp only at hSw)
                go_simp
                first | done | with_reducible rfl
              try simp only [Act.put, List.getElem_toArray, List.getElem_cons_zero, List.getElem_cons_succ, List.setIfInBounds_toArray, List.set_cons_zero, List.set_cons_succ]
              refine wpAnyH_take (i := 40) (v := ?vr40) rfl (by kernel_rfl) (by kernel_rfl) (by kernel_rfl) (fun _ _ _ h => h) (Or.inl ⟨by rfl, ?yr40⟩) (by assumption) ?rr40
              case yr40 =>
                intro w hSw
                (try dsimp only at hSw)
                go_simp
                first | done | with_reducible rfl
              try simp only [Act.put, List.getElem_toArray, List.getElem_cons_zero, List.getElem_cons_succ, List.setIfInBounds_toArray, List.set_cons_zero, List.set_cons_succ]
              refine wpAnyH_take (i := 41) (v := ?vr41) rfl (by kernel_rfl) (by kernel_rfl) (by kernel_rfl) (fun _ _ _ h => h) (Or.inl ⟨by rfl, ?yr41⟩) (by assumption) ?rr41
              case yr41 =>
                intro w hSw
                (try dsimp only at hSw)
                go_simp
                first | done | with_reducible rfl
              try simp only [Act.put, List.getElem_toArray, List.getElem_cons_zero, List.getElem_cons_succ, List.setIfInBounds_toArray, List.set_cons_zero, List.set_cons_succ]
              refine wpAnyH_take (i := 42) (v := ?vr42) rfl (by kernel_rfl) (by kernel_rfl) (by kernel_rfl) (fun _ _ _ h => h) (Or.inl ⟨by rfl, ?yr42⟩) (by assumption) ?rr42
              case yr42 =>
                intro w hSw
                (try dsimp only at hSw)
                go_simp
                first | done | with_reducible rfl
              try simp only [Act.put, List.getElem_toArray, List.getElem_cons_zero, List.getElem_cons_succ, List.setIfInBounds_toArray, List.set_cons_zero, List.set_cons_succ]
              refine wpAnyH_take (i := 43) (v := ?vr43) rfl (by kernel_rfl) (by kernel_rfl) (by kernel_rfl) (fun _ _ _ h => h) (Or.inl ⟨by rfl, ?yr43⟩) (by assumption) ?rr43
              case yr43 =>
                intro w hSw
                (try dsimp only at hSw)
                go_simp
                first | done | with_reducible rfl
              try simp only [Act.put, List.getElem_toArray, List.getElem_cons_zero, List.getElem_cons_succ, List.setIfInBounds_toArray, List.set_cons_zero, List.set_cons_succ]
              refine wpAnyH_take (i := 44) (v := ?vr44) rfl (by kernel_rfl) (by kernel_rfl) (by kernel_rfl) (fun _ _ _ h => h) (Or.inl ⟨by rfl, ?yr44⟩) (by assumption) ?rr44
              case yr44 =>
                intro w hSw
                (try dsimp only at hSw)
                go_simp
                first | done | with_reducible rfl
              try simp only [Act.put, List.getElem_toArray, List.getElem_cons_zero, List.getElem_cons_succ, List.setIfInBounds_toArray, List.set_cons_zero, List.set_cons_succ]
              refine wpAnyH_take (i := 45) (v := ?vr45) rfl (by kernel_rfl) (by kernel_rfl) (by kernel_rfl) (fun _ _ _ h => h) (Or.inl ⟨by rfl, ?yr45⟩) (by assumption) ?rr45
              case yr45 =>
                intro w hSw
                (try dsimp only at hSw)
                go_simp
                first | done | with_reducible rfl
              try simp only [Act.put, List.getElem_toArray, List.getElem_cons_zero, List.getElem_cons_succ, List.setIfInBounds_toArray, List.set_cons_zero, List.set_cons_succ]
              refine wpAnyH_ready (rs := [46]) (by kernel_rfl) (by simp) ?_
              refine AllReadyH.cons rfl (fun K hK => ?_) AllReadyH.nil
              go_simp
              refine (HDB.out u4 (HLB.out.below HU4.out)).mono ?_
              rintro e u5 ⟨g5, rfl, hg5, hb5⟩
              go_wp2_with fail
              have HU5 := Lib.hid (HU4.out.trans (hb5.mono HU4.out.size))
              have HG5 := Lib.hid hg5
              clear hb5 hg5
              refine hK.out _ _ trivial (fun hHeld => ?_)
              clear hK K
              try simp only [Act.put, List.getElem_toArray, List.getElem_cons_zero, List.getElem_cons_succ, List.setIfInBounds_toArray, List.set_cons_zero, List.set_cons_succ]
              refine wpAnyH_ready (rs := [47]) (by kernel_rfl) (by simp) ?_
              refine AllReadyH.cons rfl (fun K hK => ?_) AllReadyH.nil
              go_simp
              have hsm := sameints_any (DT P eb) (DT P eb) AD (some ⟨g5, 0, none⟩) P P u5 (HIE.out.below HU5.out) (IntsAt.block HG5.out) (by rw [DT_length heb]; omega) (by rw [DT_length heb]; omega)
              rw [DT_length heb, decide_eq_true rfl] at hsm
              refine hsm.mono ?_
              rintro e u6 ⟨rfl, hb6⟩
              go_wp2_with fail
              have HU6 := Lib.hid (HU5.out.trans (hb6.mono HU5.out.size))
              clear hb6 hsm
              refine hK.out _ _ trivial (fun hHeld => ?_)
              clear hK K
              try simp only [Act.put, List.getElem_toArray, List.getElem_cons_zero, List.getElem_cons_succ, List.setIfInBounds_toArray, List.set_cons_zero, List.set_cons_succ]
              refine wpAnyH_take (i := 48) (v := ?vr48) rfl (by kernel_rfl) (by kernel_rfl) (by kernel_rfl) (fun _ _ _ h => h) (Or.inl ⟨by rfl, ?yr48⟩) (by assumption) ?rr48
              case yr48 =>
                intro w hSw
                (try dsimp only at hSw)
                go_simp
                first | done | with_reducible rfl
              try simp only [Act.put, List.getElem_toArray, List.getElem_cons_zero, List.getElem_cons_succ, List.setIfInBounds_toArray, List.set_cons_zero, List.set_cons_succ]
              refine wpAnyH_take (i := 49) (v := ?vr49) rfl (by kernel_rfl) (by kernel_rfl) (by kernel_rfl) (fun _ _ _ h => h) (Or.inl ⟨by rfl, ?yr49⟩) (by assumption) ?rr49
              case yr49 =>
                intro w hSw
                (try dsimp only at hSw)
                go_simp
                first | done | with_reducible rfl
              try simp only [Act.put, List.getElem_toArray, List.getElem_cons_zero, List.getElem_cons_succ, List.setIfInBounds_toArray, List.set_cons_zero, List.set_cons_succ]
              refine wpAnyH_done (by kernel_rfl) ?_ _
              clear n1 n2 eSN kNS hAD1
              go_wp2_with fail
              go_loopw [14] (fun i wq => ∃ (i' : Nat), i' ≤ P ∧ i = .int .i64 i' ∧ Hid (Below wr.heap.size wr wq)) (fun i _ => P - (intOf i).toNat)
              case atStart => exact ⟨0, Nat.zero_le _, rfl, ((Below.refl _ wr).drew).trans HU6.out⟩
              case round =>
                obtain ⟨i, hi, rfl, HI⟩ := hrel
                by_cases h2 : i < P
                · have ggr := (HI.out.block _ (Array.getElem?_eq_some_iff.1 HGR6.out).1).trans HGR6.out
                  have ggx := (HI.out.block _ (Array.getElem?_eq_some_iff.1 HGX.out).1).trans HGX.out
                  rw [HX.out] at ggr ggx
                  have c2 := cellI ggx h2
                  have hXP : X i < P := HXL.out i h2
                  have c1 : wr.cell? ⟨gr, N + i, none⟩ = some (.int .i64 ((N : Int) + (X i : Nat))) := by
                    rw [cell_of_row _ _ _ _ _ _ ggr, List.getElem?_toArray]
                    have h5 : (RT N ea ++ ((List.range P).map X).map (· + N))[N + i]? = some (X i + N) := by
                      rw [List.getElem?_append_right (by rw [RT_length]; omega), RT_length, show N + i - N = i by omega, List.getElem?_map, List.getElem?_map, List.getElem?_range h2]; rfl
                    rw [valsI_get h5]
                    show some (Value.int .i64 ((X i + N : Nat) : Int)) = _
                    rw [Int.natCast_add, Int.add_comm]
                  have q1 : (i : Int) < (P : Int) := by omega
                  have q2 : (N : Int) + (i : Int) < (S : Int) := by omega
                  have wi : IntKind.i64.wrap (i : Int) = (i : Int) := IntWalk.i64_in _ (by omega)
                  have wni : IntKind.i64.wrap ((N : Int) + (i : Int)) = (N : Int) + (i : Int) := IntWalk.i64_in _ (by omega)
                  have wnx : IntKind.i64.wrap ((N : Int) + (X i : Nat)) = (N : Int) + (X i : Nat) := IntWalk.i64_in _ (by omega)
                  have m1 : (((N : Int) + (X i : Nat)) != ((N : Int) + (X i : Nat))) = false := by simp
                  clear ggr ggx hXP
                  go_wp2_with fail
                  go_quiet (fail)
                  go_wp2_with fail
                  go_roundw
                  case rel => exact ⟨i + 1, by omega, by go_num, belowQ HI.out _⟩
                  case measure => simp [intOf]; omega
                · obtain rfl : i = P := by omega
                  go_wp2_with fail
                  refine (known_any _).mono ?_
                  rintro e w7 ⟨rfl, hb7⟩
                  go_wp2_with fail
                  go_ret
                  exact ⟨rfl, HB1.out.trans ((HB.out.trans ((HB6.out.trans ((HI.out.trans (hb7.mono HI.out.size)).mono HB6.out.size)).mono HB.out.size)).mono HB1.out.size)⟩
end Go.Proofs.Yteigepblocbnlaa.Gp
