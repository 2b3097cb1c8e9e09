/-
  The law GraphMore. (gen_gplawm.py)
-/
import Derived.Test.YteigepblocbnlaaGpLawD
import Derived.Test.YteigepblocbnlaaGpLawO
namespace Go.Proofs.Yteigepblocbnlaa.Gp
open Go Go.RowKit Go.Shelf Go.Proofs
attribute [local go_sem] Oper.semAt_some

theorem same_in {m : List EN} {x : Nat} : ∀ e ∈ m ++ [(x, x)] ++ m, e ∈ m ∨ e.1 = e.2 := by
  intro e he
  rcases List.mem_append.1 he with he | he
  · rcases List.mem_append.1 he with he | he
    · exact .inl he
    · rw [List.mem_singleton.1 he]; exact .inr rfl
  · exact .inl he
set_option maxRecDepth 100000 in
set_option maxHeartbeats 16000000 in
theorem graphmore_any (n : Int) (A : Option Addr) (c : Nat) (l : List EI) (a b : Nat) (w : World) (hl : EdgesAt w A l) (hA0 : A = none → c = 0) (ha : a < 256) (hb : b < 256) :
    Calls Try.prog 5 #[.int .i64 n, .slice A l.length c, .int .u8 a, .int .u8 b] w fun e w' => e = .returned (.bool true) ∧ Below w.heap.size w w' := by
  have HS := Lib.hid (small_any n A l.length c w)
  cases hs : smallB n l.length with
  | false =>
    rw [hs] at HS
    clear hs
    go_enter Try.func5, Try.ntmps5
    go_wp2_with fail
    refine HS.out.mono ?_
    rintro e w1 ⟨rfl, hw1⟩
    have hw1 := hw1.symm; subst hw1
    go_wp2_with fail
    refine (known_any _).mono ?_
    rintro e w2 ⟨rfl, hb2⟩
    go_wp2_with fail
    go_ret
    exact ⟨rfl, hb2⟩
  | true =>
    rw [hs] at HS
    have hs2 := hs
    unfold smallB at hs2
    simp only [Bool.and_eq_true, decide_eq_true_eq] at hs2
    have HR := Lib.hid (right_any n A c l w hl (by omega))
    cases hr : rightB n l with
    | false =>
      rw [hr] at HR
      clear hs hr hs2
      go_enter Try.func5, Try.ntmps5
      go_wp2_with fail
      refine HS.out.mono ?_
      rintro e w1 ⟨rfl, hw1⟩
      have hw1 := hw1.symm; subst hw1
      go_wp2_with fail
      refine HR.out.mono ?_
      rintro e w1 ⟨rfl, hb1⟩
      go_wp2_with fail
      refine (known_any _).mono ?_
      rintro e w2 ⟨rfl, hb2⟩
      go_wp2_with fail
      go_ret
      exact ⟨rfl, hb1.trans (hb2.mono hb1.size)⟩
    | true =>
      rw [hr] at HR
      obtain ⟨N, m, rfl, rfl, hN, hm⟩ := right_nats hr
      rw [castE_length] at *
      have HL := Lib.hid hl
      by_cases h0 : N < 1
      · have k1 : ((N : Int) < 1) := by omega
        clear hs hr hs2
        go_enter Try.func5, Try.ntmps5
        go_wp2_with fail
        refine HS.out.mono ?_
        rintro e w1 ⟨rfl, hw1⟩
        have hw1 := hw1.symm; subst hw1
        go_wp2_with fail
        refine HR.out.mono ?_
        rintro e w1 ⟨rfl, hb1⟩
        go_wp2_with fail
        refine (known_any _).mono ?_
        rintro e w2 ⟨rfl, hb2⟩
        go_wp2_with fail
        go_ret
        exact ⟨rfl, hb1.trans (hb2.mono hb1.size)⟩
      · have k1 : ¬ ((N : Int) < 1) := by omega
        have k2 : ¬ ((N : Int) = 0) := by omega
        have hN60 : N ≤ 60 := by omega
        have hm150 : m.length ≤ 150 := by omega
        have HRT := Lib.hid hr
        obtain ⟨x, hx⟩ : ∃ x, a % N = x := ⟨_, rfl⟩
        obtain ⟨y, hy⟩ : ∃ y, b % N = y := ⟨_, rfl⟩
        have ex : (a : Int) % (N : Int) = (x : Int) := by rw [← hx]; rfl
        have ey : (b : Int) % (N : Int) = (y : Int) := by rw [← hy]; rfl
        have hxN : x < N := by rw [← hx]; exact Nat.mod_lt _ (by omega)
        have hyN : y < N := by rw [← hy]; exact Nat.mod_lt _ (by omega)
        obtain ⟨M, hM⟩ : ∃ M, m.length = M := ⟨_, rfl⟩
        have HM := Lib.hid hM
        have HA0 := Lib.hid hA0
        rw [hM] at HR HS hm150 ⊢
        clear hx hy hM hA0
        clear hs hr hs2
        go_enter Try.func5, Try.ntmps5
        go_wp2_with fail
        refine HS.out.mono ?_
        rintro e w1 ⟨rfl, hw1⟩
        have hw1 := hw1.symm; subst hw1
        go_wp2_with fail
        refine HR.out.mono ?_
        rintro e w1 ⟨rfl, hb1⟩
        go_wp2_with fail
        have hre := reach_any N x A c m w1 (HL.out.below hb1) (by have := HM.out; omega) (by omega) hm HRT.out hxN
        rw [HM.out] at hre
        have HRE := Lib.hid hre
        have HB1 := Lib.hid hb1
        clear hre hb1 HR
        refine HRE.out.mono ?_
        rintro e w2 ⟨gt, rfl, hgt, hb2⟩
        have HB2 := Lib.hid (HB1.out.trans (hb2.mono HB1.out.size))
        have HGT := Lib.hid hgt
        have HE2 := Lib.hid ((HL.out.below HB1.out).below hb2)
        have hgtl := (Array.getElem?_eq_some_iff.1 hgt).1
        clear hb2 hgt HRE
        have hmo : ∀ e ∈ m ++ [(y, x)], e.1 < N ∧ e.2 < N := fun e he => by
          rcases List.mem_append.1 he with he | he
          · exact hm e he
          · rw [List.mem_singleton.1 he]; exact ⟨hyN, hxN⟩
        have HMO := Lib.hid hmo
        clear hmo
        go_wp2_with (at_builtin; first | (refine wpList_appEs (v := .slice none 0 0) (l := []) (m := castE m) (B := A) (c := c) (base := w2.heap.size) rfl _ _ rfl rfl (OE.nil _ _) (by rw [castE_length, HM.out]; rfl) HE2.out HA0.out (by rw [castE_length, HM.out]; simp; omega) (Nat.le_refl _) ?_; intro A3 c3 w3 hown3 hgr3; rw [List.nil_append] at hown3 ⊢; rw [castE_length, HM.out] at hown3 ⊢; have HOW3 := Lib.hid hown3; have HL3 := Lib.hid (OE.low (OE.nil w2.heap.size w2) (Below.refl w2.heap.size w2) hgr3 (Nat.le_refl _) (Nat.le_refl _)); clear hown3 hgr3) | (refine wpList_appE (v := .slice A3 M c3) (e := ((y : Int), (x : Int))) (l := castE m) (base := w2.heap.size) rfl _ _ rfl rfl (HOW3.out.below ((Below.refl _ w3).alloc (Nat.le_refl _) _)) rfl (World.alloc_heap_new _ _) (by rw [castE_length, HM.out]; omega) (by rw [World.size_alloc]; have := HL3.out.size; omega) ?_; intro A4 c4 w4 hown4 hgr4; rw [show (castE m ++ [((y : Int), (x : Int))]).length = M + 1 by rw [List.length_append, castE_length, HM.out]; rfl] at hown4 ⊢; have HOW4 := Lib.hid hown4; have HL4 := Lib.hid (OE.low (HOW3.out.below ((Below.refl _ w3).alloc (Nat.le_refl _) _)) (HL3.out.alloc HL3.out.size _) hgr4 (Nat.le_refl _) (by rw [World.size_alloc]; have := HL3.out.size; omega)); clear hown4 hgr4))
        have hc4 : castE m ++ [((y : Int), (x : Int))] = castE (m ++ [(y, x)]) := by rw [castE_append]; rfl
        have hl4 : (m ++ [(y, x)]).length = M + 1 := by rw [List.length_append, HM.out]; rfl
        have hO4 := HOW4.out
        rw [hc4] at hO4
        obtain ⟨A5, c5, he5, hE4, _⟩ := hO4.form
        simp only [Value.slice.injEq] at he5
        obtain ⟨rfl, -, rfl⟩ := he5
        have hri := rings_any N A4 c4 (m ++ [(y, x)]) w4 hE4 (by rw [hl4]; omega) (by omega) HMO.out (rightB_cast (by omega) HMO.out)
        have hre := fun (w' : World) (h : EdgesAt w' A4 (castE (m ++ [(y, x)]))) => reach_any N x A4 c4 (m ++ [(y, x)]) w' h (by rw [hl4]; omega) (by omega) HMO.out (rightB_cast (by omega) HMO.out) hxN
        rw [hl4] at hri hre
        have HRI := Lib.hid hri
        have HRE := Lib.hid hre
        have HE4 := Lib.hid hE4
        clear hri hre hE4 hO4 hc4 hl4
        refine HRI.out.mono ?_
        rintro e w5 ⟨gr, rfl, hgr, hb5⟩
        have HB5 := Lib.hid hb5
        have HGR := Lib.hid hgr
        clear hb5 hgr HRI
        go_wp2_with fail
        refine (HRE.out _ (HE4.out.below HB5.out)).mono ?_
        rintro e w6 ⟨gn, rfl, hgn, hb6⟩
        have HB6 := Lib.hid (HB5.out.trans (hb6.mono HB5.out.size))
        have HGN := Lib.hid hgn
        have HGR6 := Lib.hid ((hb6.block _ (Array.getElem?_eq_some_iff.1 HGR.out).1).trans HGR.out)
        have HGT6 := Lib.hid ((HB6.out.block gt (by have := HL4.out.size; omega)).trans ((HL4.out.block gt hgtl).trans HGT.out))
        have HE6 := Lib.hid ((HE2.out.below HL4.out).below HB6.out)
        clear hb6 hgn HRE
        have n1 : ((N : Int) != (N : Int)) = false := by simp
        go_wp2_with (at_builtin; first | (refine wpList_appEs (v := .slice none 0 0) (l := []) (m := castE m) (B := A) (c := c) (base := w6.heap.size) rfl _ _ rfl rfl (OE.nil _ _) (by rw [castE_length, HM.out]; rfl) HE6.out HA0.out (by rw [castE_length, HM.out]; simp; omega) (Nat.le_refl _) ?_; intro A7 c7 w7 hown7 hgr7; rw [List.nil_append] at hown7 ⊢; rw [castE_length, HM.out] at hown7 ⊢; have HOW7 := Lib.hid hown7; have HL7 := Lib.hid (OE.low (OE.nil w6.heap.size w6) (Below.refl w6.heap.size w6) hgr7 (Nat.le_refl _) (Nat.le_refl _)); clear hown7 hgr7) | (refine wpList_appE (v := .slice A7 M c7) (e := ((x : Int), (x : Int))) (l := castE m) (base := w6.heap.size) rfl _ _ rfl rfl (HOW7.out.below ((Below.refl _ w7).alloc (Nat.le_refl _) _)) rfl (World.alloc_heap_new _ _) (by rw [castE_length, HM.out]; omega) (by rw [World.size_alloc]; have := HL7.out.size; omega) ?_; intro A8 c8 w8 hown8 hgr8; rw [show (castE m ++ [((x : Int), (x : Int))]).length = M + 1 by rw [List.length_append, castE_length, HM.out]; rfl] at hown8 ⊢; have HOW8 := Lib.hid hown8; have HL8 := Lib.hid (OE.low (HOW7.out.below ((Below.refl _ w7).alloc (Nat.le_refl _) _)) (HL7.out.alloc HL7.out.size _) hgr8 (Nat.le_refl _) (by rw [World.size_alloc]; have := HL7.out.size; omega)); clear hown8 hgr8) | (refine wpList_appEs (v := .slice A8 (M + 1) c8) (l := castE m ++ [((x : Int), (x : Int))]) (m := castE m) (B := A) (c := c) (base := w6.heap.size) rfl _ _ rfl rfl HOW8.out (by rw [castE_length, HM.out]; rfl) (HE6.out.below HL8.out) HA0.out (by rw [List.length_append, castE_length, HM.out]; simp; omega) HL8.out.size ?_; intro A9 c9 w9 hown9 hgr9; rw [show (castE m ++ [((x : Int), (x : Int))] ++ castE m).length = M + 1 + M by rw [List.length_append, List.length_append, castE_length, HM.out]; rfl] at hown9 ⊢; have HOW9 := Lib.hid hown9; have HL9 := Lib.hid (OE.low HOW8.out HL8.out hgr9 (Nat.le_refl _) HL8.out.size); clear hown9 hgr9))
        have hc9 : castE m ++ [((x : Int), (x : Int))] ++ castE m = castE (m ++ [(x, x)] ++ m) := by rw [castE_append, castE_append]; rfl
        have hl9 : (m ++ [(x, x)] ++ m).length = M + 1 + M := by rw [List.length_append, List.length_append, HM.out]; rfl
        have hO9 := HOW9.out
        rw [hc9] at hO9
        obtain ⟨A6, c6, he6, hE9, _⟩ := hO9.form
        simp only [Value.slice.injEq] at he6
        obtain ⟨rfl, -, rfl⟩ := he6
        have hso : ∀ e ∈ m ++ [(x, x)] ++ m, e.1 < N ∧ e.2 < N := fun e he => by
          rcases List.mem_append.1 he with he | he
          · rcases List.mem_append.1 he with he | he
            · exact hm e he
            · rw [List.mem_singleton.1 he]; exact ⟨hxN, hxN⟩
          · exact hm e he
        have HSOK := Lib.hid hso
        have HGN9 := Lib.hid ((HL9.out.block _ (Array.getElem?_eq_some_iff.1 HGN.out).1).trans HGN.out)
        have HGR9 := Lib.hid ((HL9.out.block _ (Array.getElem?_eq_some_iff.1 HGR6.out).1).trans HGR6.out)
        have HGT9 := Lib.hid ((HL9.out.block _ (Array.getElem?_eq_some_iff.1 HGT6.out).1).trans HGT6.out)
        have HE9 := Lib.hid hE9
        have HEL9 := Lib.hid (HE6.out.below HL9.out)
        have HB9 := Lib.hid (HB2.out.trans (((HL4.out.trans (HB6.out.mono HL4.out.size)).trans (HL9.out.mono (Nat.le_trans HL4.out.size HB6.out.size))).mono HB2.out.size))
        clear hso hO9 hc9 hE9
        go_loopw [16] (fun i wr => ∃ (k : Nat), k ≤ N ∧ i = .int .i64 k ∧ Hid (Below w9.heap.size w9 wr)) (fun i _ => N - (intOf i).toNat)
        case atStart => exact ⟨0, Nat.zero_le _, rfl, Below.refl _ _⟩
        case round =>
          obtain ⟨k, hk, rfl, HB⟩ := hrel
          have ggt := (HB.out.block _ (Array.getElem?_eq_some_iff.1 HGT9.out).1).trans HGT9.out
          have ggn := (HB.out.block _ (Array.getElem?_eq_some_iff.1 HGN9.out).1).trans HGN9.out
          have ggr := (HB.out.block _ (Array.getElem?_eq_some_iff.1 HGR9.out).1).trans HGR9.out
          by_cases h1 : k < N
          · obtain ⟨tk, htk, itk⟩ := RC_rch (N := N) (m := m) (x := x) (y := k) hxN h1
            obtain ⟨nk, hnk, ink⟩ := RC_rch (N := N) (m := m ++ [(y, x)]) (x := x) (y := k) hxN h1
            have c1 := BoolsAt ggt htk
            have c2 := BoolsAt ggn hnk
            have himp : tk = true → nk = true := fun h => ink.2 (Rch_sub hm HMO.out (fun e he => .inl (List.mem_append_left _ he)) (itk.1 h))
            have q1 : (k : Int) < (N : Int) := by omega
            have wk : IntKind.i64.wrap (k : Int) = (k : Int) := IntWalk.i64_in _ (by omega)
            clear htk itk hnk ink ggt ggn ggr hl9
            cases tk with
            | false =>
              clear himp
              go_wp2_with fail
              go_roundw
              case rel => exact ⟨k + 1, by omega, by go_num, HB.out⟩
              case measure => simp [intOf]; omega
            | true =>
              obtain rfl := himp rfl
              clear himp
              go_wp2_with fail
              go_roundw
              case rel => exact ⟨k + 1, by omega, by go_num, HB.out⟩
              case measure => simp [intOf]; omega
          · obtain rfl : k = N := by omega
            have hmut : ∀ u v, Mut (adjT k (m ++ [(x, x)] ++ m)) k u v ↔ Mut (adjT k m) k u v := fun u v => ⟨fun h => ⟨Rch_sub HSOK.out hm same_in h.1, Rch_sub HSOK.out hm same_in h.2⟩, fun h => ⟨Rch_sub hm HSOK.out (fun e he => .inl (List.mem_append_right _ he)) h.1, Rch_sub hm HSOK.out (fun e he => .inl (List.mem_append_right _ he)) h.2⟩⟩
            have HRTE := Lib.hid (RT_same HSOK.out hm hmut)
            have HDTE := Lib.hid (DT_same HSOK.out hm hmut (fun u v hu _ hne => by
              rw [adj_iff HSOK.out, adj_iff hm]
              refine ⟨fun h => ?_, fun h => List.mem_append_right _ h⟩
              rcases same_in _ h with h | h
              · exact h
              · simp only at h; subst h; exact absurd (Mut.refl hu) hne))
            have hrs := fun (w' : World) (h : EdgesAt w' A9 (castE (m ++ [(x, x)] ++ m))) => rings_any k A9 c9 (m ++ [(x, x)] ++ m) w' h (by rw [hl9]; omega) (by omega) HSOK.out (rightB_cast (by omega) HSOK.out)
            have hds := fun (w' : World) (h : EdgesAt w' A9 (castE (m ++ [(x, x)] ++ m))) => depths_any k A9 c9 (m ++ [(x, x)] ++ m) w' h (by rw [hl9]; omega) (by omega) HSOK.out (rightB_cast (by omega) HSOK.out)
            have hrl := fun (w' : World) (h : EdgesAt w' A (castE m)) => rings_any k A c m w' h (by rw [HM.out]; omega) (by omega) hm HRT.out
            have hdl := fun (w' : World) (h : EdgesAt w' A (castE m)) => depths_any k A c m w' h (by rw [HM.out]; omega) (by omega) hm HRT.out
            rw [hl9] at hrs hds
            rw [HM.out] at hrl hdl
            have HRS := Lib.hid hrs
            have HDS := Lib.hid hds
            have HRL := Lib.hid hrl
            have HDL := Lib.hid hdl
            have HES := Lib.hid ((HE9.out.below HB.out).below ((Below.refl _ wr).drew))
            have HEL := Lib.hid ((HEL9.out.below HB.out).below ((Below.refl _ wr).drew))
            have HBR := Lib.hid ((HB9.out.trans (HB.out.mono HB9.out.size)).drew)
            obtain ⟨R, hR, eR⟩ := RT_least HMO.out
            rw [eR] at ggr
            have z2 := cellI ggr hxN
            have z3 := cellI ggr hyN
            obtain ⟨tv, htv, itv⟩ := RC_rch (N := k) (m := m) (x := x) (y := y) hxN hyN
            have z1 := BoolsAt ggt htv
            have hback : tv = true → R x = R y := fun h => by
              have h1 : Rch (adjT k (m ++ [(y, x)])) k x y := Rch_sub hm HMO.out (fun e he => .inl (List.mem_append_left _ he)) (itv.1 h)
              have h2 : Rch (adjT k (m ++ [(y, x)])) k y x := Rch.edge hyN hxN ((adj_iff HMO.out y x).2 (by simp))
              exact (least_iff hR hyN hxN).2 ⟨h2, h1⟩
            have q2 : (x : Int) < (k : Int) := by omega
            have q3 : (y : Int) < (k : Int) := by omega
            have wx : IntKind.i64.wrap (x : Int) = (x : Int) := IntWalk.i64_in _ (by omega)
            have wy : IntKind.i64.wrap (y : Int) = (y : Int) := IntWalk.i64_in _ (by omega)
            have z1 : wr.drew.cell? _ = _ := z1
            have z2 : wr.drew.cell? _ = _ := z2
            have z3 : wr.drew.cell? _ = _ := z3
            have HMK := Lib.hid hm
            clear hmut hrs hds hrl hdl ggt ggn ggr hl9 htv itv hR eR
            cases tv with
            | true =>
              have hrr := hback rfl
              have g1 : (((R x : Nat) : Int) == ((R y : Nat) : Int)) = true := by simp [hrr]
              clear hback hrr
              go_wp2_with fail
              refine wp_region_held_drew (S := (fun w' => w'.cell? ⟨gt, y, none⟩ = some (.bool true) ∧ w'.cell? ⟨gr, x, none⟩ = some (.int .i64 (R x : Nat)) ∧ w'.cell? ⟨gr, y, none⟩ = some (.int .i64 (R y : Nat)))) (by kernel_rfl) ⟨z1, z2, z3⟩ (fun hHeld => ?_)
              refine wpAnyH_take (i := 0) (v := ?vt0) rfl (by kernel_rfl) (by kernel_rfl) (by kernel_rfl) (fun _ _ _ h => h) (Or.inl ⟨by rfl, ?yt0⟩) (by assumption) ?rt0
              case yt0 =>
                intro w hSw
                (try dsimp only at hSw)
                go_simp
                first | done | with_reducible rfl
              try simp only [Act.put, List.getElem_toArray, List.getElem_cons_zero, List.setIfInBounds_toArray, List.set_cons_zero, List.set_cons_succ]
              refine wpAnyH_take (i := 1) (v := ?vt1) rfl (by kernel_rfl) (by kernel_rfl) (by kernel_rfl) (fun _ _ _ h => h) (Or.inl ⟨by rfl, ?yt1⟩) (by assumption) ?rt1
              case yt1 =>
                intro w hSw
                (try dsimp only at hSw)
                go_simp
                first | done | with_reducible rfl
              try simp only [Act.put, List.getElem_toArray, List.getElem_cons_zero, List.getElem_cons_succ, List.setIfInBounds_toArray, List.set_cons_zero, List.set_cons_succ]
              refine wpAnyH_take (i := 2) (v := ?vt2) rfl (by kernel_rfl) (by kernel_rfl) (by kernel_rfl) (fun _ _ _ h => h) (Or.inl ⟨by rfl, ?yt2⟩) (by assumption) ?rt2
              case yt2 =>
                intro w hSw
                (try dsimp only at hSw)
                go_simp
                first | done | with_reducible rfl
              try simp only [Act.put, List.getElem_toArray, List.getElem_cons_zero, List.getElem_cons_succ, List.setIfInBounds_toArray, List.set_cons_zero, List.set_cons_succ]
              refine wpAnyH_take (i := 3) (v := ?vt3) rfl (by kernel_rfl) (by kernel_rfl) (by kernel_rfl) (fun _ _ _ h => h) (Or.inl ⟨by rfl, ?yt3⟩) (by assumption) ?rt3
              case yt3 =>
                intro w hSw
                (try dsimp only at hSw)
                go_simp
                first | done | with_reducible rfl
              try simp only [Act.put, List.getElem_toArray, List.getElem_cons_zero, List.getElem_cons_succ, List.setIfInBounds_toArray, List.set_cons_zero, List.set_cons_succ]
              refine wpAnyH_take (i := 4) (v := ?vt4) rfl (by kernel_rfl) (by kernel_rfl) (by kernel_rfl) (fun _ _ _ h => h) (Or.inl ⟨by rfl, ?yt4⟩) (by assumption) ?rt4
              case yt4 =>
                intro w hSw
                (try dsimp only at hSw)
                go_simp
                first | done | with_reducible rfl
              try simp only [Act.put, List.getElem_toArray, List.getElem_cons_zero, List.getElem_cons_succ, List.setIfInBounds_toArray, List.set_cons_zero, List.set_cons_succ]
              refine wpAnyH_take (i := 5) (v := ?vt5) rfl (by kernel_rfl) (by kernel_rfl) (by kernel_rfl) (fun _ _ _ h => h) (Or.inl ⟨by rfl, ?yt5⟩) (by assumption) ?rt5
              case yt5 =>
                intro w hSw
                (try dsimp only at hSw)
                go_simp
                first | done | with_reducible rfl
              try simp only [Act.put, List.getElem_toArray, List.getElem_cons_zero, List.getElem_cons_succ, List.setIfInBounds_toArray, List.set_cons_zero, List.set_cons_succ]
              refine wpAnyH_take (i := 6) (v := ?vt6) rfl (by kernel_rfl) (by kernel_rfl) (by kernel_rfl) (fun _ _ _ h => h) (Or.inl ⟨by rfl, ?yt6⟩) (by assumption) ?rt6
              case yt6 =>
                intro w hSw
                (try dsimp only at hSw)
                go_simp
                first | done | with_reducible rfl
              try simp only [Act.put, List.getElem_toArray, List.getElem_cons_zero, List.getElem_cons_succ, List.setIfInBounds_toArray, List.set_cons_zero, List.set_cons_succ]
              refine wpAnyH_take (i := 7) (v := ?vt7) rfl (by kernel_rfl) (by kernel_rfl) (by kernel_rfl) (fun _ _ _ h => h) (Or.inl ⟨by rfl, ?yt7⟩) (by assumption) ?rt7
              case yt7 =>
                intro w hSw
                (try dsimp only at hSw)
                go_simp
                first | done | with_reducible rfl
              try simp only [Act.put, List.getElem_toArray, List.getElem_cons_zero, List.getElem_cons_succ, List.setIfInBounds_toArray, List.set_cons_zero, List.set_cons_succ]
              refine wpAnyH_take (i := 8) (v := ?vt8) rfl (by kernel_rfl) (by kernel_rfl) (by kernel_rfl) (fun _ _ _ h => h) (Or.inl ⟨by rfl, ?yt8⟩) (by assumption) ?rt8
              case yt8 =>
                intro w hSw
                (try dsimp only at hSw)
                go_simp
                first | done | with_reducible rfl
              try simp only [Act.put, List.getElem_toArray, List.getElem_cons_zero, List.getElem_cons_succ, List.setIfInBounds_toArray, List.set_cons_zero, List.set_cons_succ]
              refine wpAnyH_take (i := 9) (v := ?vt9) rfl (by kernel_rfl) (by kernel_rfl) (by kernel_rfl) (fun _ _ _ h => h) (Or.inl ⟨by rfl, ?yt9⟩) (by assumption) ?rt9
              case yt9 =>
                intro w hSw
                (try dsimp only at hSw)
                go_simp
                first | done | with_reducible rfl
              try simp only [Act.put, List.getElem_toArray, List.getElem_cons_zero, List.getElem_cons_succ, List.setIfInBounds_toArray, List.set_cons_zero, List.set_cons_succ]
              refine wpAnyH_take (i := 10) (v := ?vt10) rfl (by kernel_rfl) (by kernel_rfl) (by kernel_rfl) (fun _ _ _ h => h) (Or.inl ⟨by rfl, ?yt10⟩) (by assumption) ?rt10
              case yt10 =>
                intro w hSw
                (try dsimp only at hSw)
                go_simp
                first | done | with_reducible rfl
              try simp only [Act.put, List.getElem_toArray, List.getElem_cons_zero, List.getElem_cons_succ, List.setIfInBounds_toArray, List.set_cons_zero, List.set_cons_succ]
              refine wpAnyH_take (i := 11) (v := ?vt11) rfl (by kernel_rfl) (by kernel_rfl) (by kernel_rfl) (fun _ _ _ h => h) (Or.inl ⟨by rfl, ?yt11⟩) (by assumption) ?rt11
              case yt11 =>
                intro w hSw
                (try dsimp only at hSw)
                go_simp
                first | done | with_reducible rfl
              try simp only [Act.put, List.getElem_toArray, List.getElem_cons_zero, List.getElem_cons_succ, List.setIfInBounds_toArray, List.set_cons_zero, List.set_cons_succ]
              refine wpAnyH_take (i := 12) (v := ?vt12) rfl (by kernel_rfl) (by kernel_rfl) (by kernel_rfl) (fun _ _ _ h => h) (Or.inl ⟨by rfl, ?yt12⟩) (by assumption) ?rt12
              case yt12 =>
                intro w hSw
                (try dsimp only at hSw)
                go_simp
                first | done | with_reducible rfl
              try simp only [Act.put, List.getElem_toArray, List.getElem_cons_zero, List.getElem_cons_succ, List.setIfInBounds_toArray, List.set_cons_zero, List.set_cons_succ]
              refine wpAnyH_take (i := 13) (v := ?vt13) rfl (by kernel_rfl) (by kernel_rfl) (by kernel_rfl) (fun _ _ _ h => h) (Or.inl ⟨by rfl, ?yt13⟩) (by assumption) ?rt13
              case yt13 =>
                intro w hSw
                (try dsimp only at hSw)
                go_simp
                first | done | with_reducible rfl
              try simp only [Act.put, List.getElem_toArray, List.getElem_cons_zero, List.getElem_cons_succ, List.setIfInBounds_toArray, List.set_cons_zero, List.set_cons_succ]
              refine wpAnyH_take (i := 14) (v := ?vt14) rfl (by kernel_rfl) (by kernel_rfl) (by kernel_rfl) (fun _ _ _ h => h) (Or.inl ⟨by rfl, ?yt14⟩) (by assumption) ?rt14
              case yt14 =>
                intro w hSw
                (try dsimp only at hSw)
                go_simp
                first | done | with_reducible rfl
              try simp only [Act.put, List.getElem_toArray, List.getElem_cons_zero, List.getElem_cons_succ, List.setIfInBounds_toArray, List.set_cons_zero, List.set_cons_succ]
              refine wpAnyH_take (i := 15) (v := ?vt15) rfl (by kernel_rfl) (by kernel_rfl) (by kernel_rfl) (fun _ _ _ h => h) (Or.inl ⟨by rfl, ?yt15⟩) (by assumption) ?rt15
              case yt15 =>
                intro w hSw
                (try dsimp only at hSw)
                go_simp
                first | done | with_reducible rfl
              try simp only [Act.put, List.getElem_toArray, List.getElem_cons_zero, List.getElem_cons_succ, List.setIfInBounds_toArray, List.set_cons_zero, List.set_cons_succ]
              refine wpAnyH_take (i := 16) (v := ?vt16) rfl (by kernel_rfl) (by kernel_rfl) (by kernel_rfl) (fun _ _ _ h => h) (Or.inl ⟨by rfl, ?yt16⟩) (by assumption) ?rt16
              case yt16 =>
                intro w hSw
                (try dsimp only at hSw)
                go_simp
                first | done | with_reducible rfl
              try simp only [Act.put, List.getElem_toArray, List.getElem_cons_zero, List.getElem_cons_succ, List.setIfInBounds_toArray, List.set_cons_zero, List.set_cons_succ]
              refine wpAnyH_take (i := 17) (v := ?vt17) rfl (by kernel_rfl) (by kernel_rfl) (by kernel_rfl) (fun _ _ _ h => h) (Or.inl ⟨by rfl, ?yt17⟩) (by assumption) ?rt17
              case yt17 =>
                intro w hSw
                (try dsimp only at hSw)
                go_simp
                first | done | with_reducible rfl
              try simp only [Act.put, List.getElem_toArray, List.getElem_cons_zero, List.getElem_cons_succ, List.setIfInBounds_toArray, List.set_cons_zero, List.set_cons_succ]
              refine wpAnyH_take (i := 18) (v := ?vt18) rfl (by kernel_rfl) (by kernel_rfl) (by kernel_rfl) (fun _ _ _ h => h) (Or.inl ⟨by rfl, ?yt18⟩) (by assumption) ?rt18
              case yt18 =>
                intro w hSw
                (try dsimp only at hSw)
                go_simp
                first | done | with_reducible rfl
              try simp only [Act.put, List.getElem_toArray, List.getElem_cons_zero, List.getElem_cons_succ, List.setIfInBounds_toArray, List.set_cons_zero, List.set_cons_succ]
              refine wpAnyH_take (i := 20) (v := ?vt20) rfl (by kernel_rfl) (by kernel_rfl) (by kernel_rfl) (fun _ _ _ h => h) (Or.inl ⟨by rfl, ?yt20⟩) (by assumption) ?rt20
              case yt20 =>
                intro w hSw
                (try dsimp only at hSw)
                go_simp
                first | done | with_reducible rfl
              try simp only [Act.put, List.getElem_toArray, List.getElem_cons_zero, List.getElem_cons_succ, List.setIfInBounds_toArray, List.set_cons_zero, List.set_cons_succ]
              refine wpAnyH_take (i := 21) (v := ?vt21) rfl (by kernel_rfl) (by kernel_rfl) (by kernel_rfl) (fun _ _ _ h => h) (Or.inl ⟨by rfl, ?yt21⟩) (by assumption) ?rt21
              case yt21 =>
                intro w hSw
                (try dsimp only at hSw)
                go_simp
                first | done | with_reducible rfl
              try simp only [Act.put, List.getElem_toArray, List.getElem_cons_zero, List.getElem_cons_succ, List.setIfInBounds_toArray, List.set_cons_zero, List.set_cons_succ]
              refine wpAnyH_ready (rs := [19]) (by kernel_rfl) (by simp) ?_
              refine AllReadyH.cons rfl (fun K hK => ?_) AllReadyH.nil
              go_simp
              refine (HRS.out wr.drew HES.out).mono ?_
              rintro e u1 ⟨g1, rfl, hg1, hb1'⟩
              go_wp2_with fail
              have HU1 := Lib.hid hb1'
              have HG1 := Lib.hid hg1
              clear hb1' hg1
              have z1 := (World.cell?_of_block (a := ⟨gt, y, none⟩) (HU1.out.block _ (World.block_lt_of_cell? wr (a := ⟨gt, y, none⟩) hHeld.1))).trans hHeld.1
              have z2 := (World.cell?_of_block (a := ⟨gr, x, none⟩) (HU1.out.block _ (World.block_lt_of_cell? wr (a := ⟨gr, x, none⟩) hHeld.2.1))).trans hHeld.2.1
              have z3 := (World.cell?_of_block (a := ⟨gr, y, none⟩) (HU1.out.block _ (World.block_lt_of_cell? wr (a := ⟨gr, y, none⟩) hHeld.2.2))).trans hHeld.2.2
              clear hHeld
              refine hK.out _ _ ⟨z1, z2, z3⟩ (fun hHeld => ?_)
              clear z1 z2 z3
              clear hK K
              try simp only [Act.put, List.getElem_toArray, List.getElem_cons_zero, List.getElem_cons_succ, List.setIfInBounds_toArray, List.set_cons_zero, List.set_cons_succ]
              refine wpAnyH_ready (rs := [22]) (by kernel_rfl) (by simp) ?_
              refine AllReadyH.cons rfl (fun K hK => ?_) AllReadyH.nil
              go_simp
              refine (HRL.out u1 (HEL.out.below HU1.out)).mono ?_
              rintro e u2 ⟨g2, rfl, hg2, hb2'⟩
              go_wp2_with fail
              have HU2 := Lib.hid hb2'
              have HG2 := Lib.hid hg2
              clear hb2' hg2
              have z1 := (World.cell?_of_block (a := ⟨gt, y, none⟩) (HU2.out.block _ (World.block_lt_of_cell? u1 (a := ⟨gt, y, none⟩) hHeld.1))).trans hHeld.1
              have z2 := (World.cell?_of_block (a := ⟨gr, x, none⟩) (HU2.out.block _ (World.block_lt_of_cell? u1 (a := ⟨gr, x, none⟩) hHeld.2.1))).trans hHeld.2.1
              have z3 := (World.cell?_of_block (a := ⟨gr, y, none⟩) (HU2.out.block _ (World.block_lt_of_cell? u1 (a := ⟨gr, y, none⟩) hHeld.2.2))).trans hHeld.2.2
              clear hHeld
              refine hK.out _ _ ⟨z1, z2, z3⟩ (fun hHeld => ?_)
              clear z1 z2 z3
              clear hK K
              try simp only [Act.put, List.getElem_toArray, List.getElem_cons_zero, List.getElem_cons_succ, List.setIfInBounds_toArray, List.set_cons_zero, List.set_cons_succ]
              refine wpAnyH_ready (rs := [23]) (by kernel_rfl) (by simp) ?_
              refine AllReadyH.cons rfl (fun K hK => ?_) AllReadyH.nil
              go_simp
              have hsm := sameints_any (RT k (m ++ [(x, x)] ++ m)) (RT k m) (some ⟨g1, 0, none⟩) (some ⟨g2, 0, none⟩) k k u2 ((IntsAt.block HG1.out).below HU2.out) (IntsAt.block HG2.out) (by rw [RT_length]; omega) (by rw [RT_length]; omega)
              rw [RT_length, RT_length, decide_eq_true HRTE.out] at hsm
              refine hsm.mono ?_
              rintro e u3 ⟨rfl, hb3'⟩
              go_wp2_with fail
              have HU3 := Lib.hid hb3'
              clear hb3' hsm
              have z1 := (World.cell?_of_block (a := ⟨gt, y, none⟩) (HU3.out.block _ (World.block_lt_of_cell? u2 (a := ⟨gt, y, none⟩) hHeld.1))).trans hHeld.1
              have z2 := (World.cell?_of_block (a := ⟨gr, x, none⟩) (HU3.out.block _ (World.block_lt_of_cell? u2 (a := ⟨gr, x, none⟩) hHeld.2.1))).trans hHeld.2.1
              have z3 := (World.cell?_of_block (a := ⟨gr, y, none⟩) (HU3.out.block _ (World.block_lt_of_cell? u2 (a := ⟨gr, y, none⟩) hHeld.2.2))).trans hHeld.2.2
              clear hHeld
              refine hK.out _ _ ⟨z1, z2, z3⟩ (fun hHeld => ?_)
              clear z1 z2 z3
              clear hK K
              try simp only [Act.put, List.getElem_toArray, List.getElem_cons_zero, List.getElem_cons_succ, List.setIfInBounds_toArray, List.set_cons_zero, List.set_cons_succ]
              refine wpAnyH_take (i := 24) (v := ?vt24) rfl (by kernel_rfl) (by kernel_rfl) (by kernel_rfl) (fun _ _ _ h => h) (Or.inl ⟨by rfl, ?yt24⟩) (by assumption) ?rt24
              case yt24 =>
                intro w hSw
                (try dsimp only at hSw)
                go_simp
                first | done | with_reducible rfl
              try simp only [Act.put, List.getElem_toArray, List.getElem_cons_zero, List.getElem_cons_succ, List.setIfInBounds_toArray, List.set_cons_zero, List.set_cons_succ]
              refine wpAnyH_take (i := 25) (v := ?vt25) rfl (by kernel_rfl) (by kernel_rfl) (by kernel_rfl) (fun _ _ _ h => h) (Or.inl ⟨by rfl, ?yt25⟩) (by assumption) ?rt25
              case yt25 =>
                intro w hSw
                (try dsimp only at hSw)
                go_simp
                first | done | with_reducible rfl
              try simp only [Act.put, List.getElem_toArray, List.getElem_cons_zero, List.getElem_cons_succ, List.setIfInBounds_toArray, List.set_cons_zero, List.set_cons_succ]
              refine wpAnyH_take (i := 26) (v := ?vt26) rfl (by kernel_rfl) (by kernel_rfl) (by kernel_rfl) (fun _ _ _ h => h) (Or.inl ⟨by rfl, ?yt26⟩) (by assumption) ?rt26
              case yt26 =>
                intro w hSw
                (try dsimp only at hSw)
                go_simp
                first | done | with_reducible rfl
              try simp only [Act.put, List.getElem_toArray, List.getElem_cons_zero, List.getElem_cons_succ, List.setIfInBounds_toArray, List.set_cons_zero, List.set_cons_succ]
              refine wpAnyH_take (i := 27) (v := ?vt27) rfl (by kernel_rfl) (by kernel_rfl) (by kernel_rfl) (fun _ _ _ h => h) (Or.inl ⟨by rfl, ?yt27⟩) (by assumption) ?rt27
              case yt27 =>
                intro w hSw
                (try dsimp only at hSw)
                go_simp
                first | done | with_reducible rfl
              try simp only [Act.put, List.getElem_toArray, List.getElem_cons_zero, List.getElem_cons_succ, List.setIfInBounds_toArray, List.set_cons_zero, List.set_cons_succ]
              refine wpAnyH_take (i := 29) (v := ?vt29) rfl (by kernel_rfl) (by kernel_rfl) (by kernel_rfl) (fun _ _ _ h => h) (Or.inl ⟨by rfl, ?yt29⟩) (by assumption) ?rt29
              case yt29 =>
                intro w hSw
                (try dsimp only at hSw)
                go_simp
                first | done | with_reducible rfl
              try simp only [Act.put, List.getElem_toArray, List.getElem_cons_zero, List.getElem_cons_succ, List.setIfInBounds_toArray, List.set_cons_zero, List.set_cons_succ]
              refine wpAnyH_take (i := 30) (v := ?vt30) rfl (by kernel_rfl) (by kernel_rfl) (by kernel_rfl) (fun _ _ _ h => h) (Or.inl ⟨by rfl, ?yt30⟩) (by assumption) ?rt30
              case yt30 =>
                intro w hSw
                (try dsimp only at hSw)
                go_simp
                first | done | with_reducible rfl
              try simp only [Act.put, List.getElem_toArray, List.getElem_cons_zero, List.getElem_cons_succ, List.setIfInBounds_toArray, List.set_cons_zero, List.set_cons_succ]
              refine wpAnyH_ready (rs := [28]) (by kernel_rfl) (by simp) ?_
              refine AllReadyH.cons rfl (fun K hK => ?_) AllReadyH.nil
              go_simp
              refine (HDS.out u3 (((HES.out.below HU1.out).below HU2.out).below HU3.out)).mono ?_
              rintro e u4 ⟨g4, rfl, hg4, hb4'⟩
              go_wp2_with fail
              have HU4 := Lib.hid hb4'
              have HG4 := Lib.hid hg4
              clear hb4' hg4
              have z1 := (World.cell?_of_block (a := ⟨gt, y, none⟩) (HU4.out.block _ (World.block_lt_of_cell? u3 (a := ⟨gt, y, none⟩) hHeld.1))).trans hHeld.1
              have z2 := (World.cell?_of_block (a := ⟨gr, x, none⟩) (HU4.out.block _ (World.block_lt_of_cell? u3 (a := ⟨gr, x, none⟩) hHeld.2.1))).trans hHeld.2.1
              have z3 := (World.cell?_of_block (a := ⟨gr, y, none⟩) (HU4.out.block _ (World.block_lt_of_cell? u3 (a := ⟨gr, y, none⟩) hHeld.2.2))).trans hHeld.2.2
              clear hHeld
              refine hK.out _ _ ⟨z1, z2, z3⟩ (fun hHeld => ?_)
              clear z1 z2 z3
              clear hK K
              try simp only [Act.put, List.getElem_toArray, List.getElem_cons_zero, List.getElem_cons_succ, List.setIfInBounds_toArray, List.set_cons_zero, List.set_cons_succ]
              refine wpAnyH_ready (rs := [31]) (by kernel_rfl) (by simp) ?_
              refine AllReadyH.cons rfl (fun K hK => ?_) AllReadyH.nil
              go_simp
              refine (HDL.out u4 ((((HEL.out.below HU1.out).below HU2.out).below HU3.out).below HU4.out)).mono ?_
              rintro e u5 ⟨g5, rfl, hg5, hb5'⟩
              go_wp2_with fail
              have HU5 := Lib.hid hb5'
              have HG5 := Lib.hid hg5
              clear hb5' hg5
              have z1 := (World.cell?_of_block (a := ⟨gt, y, none⟩) (HU5.out.block _ (World.block_lt_of_cell? u4 (a := ⟨gt, y, none⟩) hHeld.1))).trans hHeld.1
              have z2 := (World.cell?_of_block (a := ⟨gr, x, none⟩) (HU5.out.block _ (World.block_lt_of_cell? u4 (a := ⟨gr, x, none⟩) hHeld.2.1))).trans hHeld.2.1
              have z3 := (World.cell?_of_block (a := ⟨gr, y, none⟩) (HU5.out.block _ (World.block_lt_of_cell? u4 (a := ⟨gr, y, none⟩) hHeld.2.2))).trans hHeld.2.2
              clear hHeld
              refine hK.out _ _ ⟨z1, z2, z3⟩ (fun hHeld => ?_)
              clear z1 z2 z3
              clear hK K
              try simp only [Act.put, List.getElem_toArray, List.getElem_cons_zero, List.getElem_cons_succ, List.setIfInBounds_toArray, List.set_cons_zero, List.set_cons_succ]
              refine wpAnyH_ready (rs := [32]) (by kernel_rfl) (by simp) ?_
              refine AllReadyH.cons rfl (fun K hK => ?_) AllReadyH.nil
              go_simp
              have hsm := sameints_any (DT k (m ++ [(x, x)] ++ m)) (DT k m) (some ⟨g4, 0, none⟩) (some ⟨g5, 0, none⟩) k k u5 ((IntsAt.block HG4.out).below HU5.out) (IntsAt.block HG5.out) (by rw [DT_length hm]; omega) (by rw [DT_length HSOK.out]; omega)
              rw [DT_length HSOK.out, DT_length hm, decide_eq_true HDTE.out] at hsm
              refine hsm.mono ?_
              rintro e u6 ⟨rfl, hb6'⟩
              go_wp2_with fail
              have HU6 := Lib.hid hb6'
              clear hb6' hsm
              have z1 := (World.cell?_of_block (a := ⟨gt, y, none⟩) (HU6.out.block _ (World.block_lt_of_cell? u5 (a := ⟨gt, y, none⟩) hHeld.1))).trans hHeld.1
              have z2 := (World.cell?_of_block (a := ⟨gr, x, none⟩) (HU6.out.block _ (World.block_lt_of_cell? u5 (a := ⟨gr, x, none⟩) hHeld.2.1))).trans hHeld.2.1
              have z3 := (World.cell?_of_block (a := ⟨gr, y, none⟩) (HU6.out.block _ (World.block_lt_of_cell? u5 (a := ⟨gr, y, none⟩) hHeld.2.2))).trans hHeld.2.2
              clear hHeld
              refine hK.out _ _ ⟨z1, z2, z3⟩ (fun hHeld => ?_)
              clear z1 z2 z3
              clear hK K
              try simp only [Act.put, List.getElem_toArray, List.getElem_cons_zero, List.getElem_cons_succ, List.setIfInBounds_toArray, List.set_cons_zero, List.set_cons_succ]
              refine wpAnyH_take (i := 33) (v := ?vt33) rfl (by kernel_rfl) (by kernel_rfl) (by kernel_rfl) (fun _ _ _ h => h) (Or.inl ⟨by rfl, ?yt33⟩) (by assumption) ?rt33
              case yt33 =>
                intro w hSw
                (try dsimp only at hSw)
                go_simp
                first | done | with_reducible rfl
              try simp only [Act.put, List.getElem_toArray, List.getElem_cons_zero, List.getElem_cons_succ, List.setIfInBounds_toArray, List.set_cons_zero, List.set_cons_succ]
              refine wpAnyH_take (i := 34) (v := ?vt34) rfl (by kernel_rfl) (by kernel_rfl) (by kernel_rfl) (fun _ _ _ h => h) (Or.inl ⟨by rfl, ?yt34⟩) (by assumption) ?rt34
              case yt34 =>
                intro w hSw
                (try dsimp only at hSw)
                go_simp
                first | done | with_reducible rfl
              try simp only [Act.put, List.getElem_toArray, List.getElem_cons_zero, List.getElem_cons_succ, List.setIfInBounds_toArray, List.set_cons_zero, List.set_cons_succ]
              refine wpAnyH_ready (rs := [35]) (by kernel_rfl) (by simp) ?_
              refine AllReadyH.cons rfl (fun K hK => ?_) AllReadyH.nil
              go_simp
              refine (known_any u6).mono ?_
              rintro e u7 ⟨rfl, hb7'⟩
              go_wp2_with fail
              have HU7 := Lib.hid hb7'
              clear hb7'
              have z1 := (World.cell?_of_block (a := ⟨gt, y, none⟩) (HU7.out.block _ (World.block_lt_of_cell? u6 (a := ⟨gt, y, none⟩) hHeld.1))).trans hHeld.1
              have z2 := (World.cell?_of_block (a := ⟨gr, x, none⟩) (HU7.out.block _ (World.block_lt_of_cell? u6 (a := ⟨gr, x, none⟩) hHeld.2.1))).trans hHeld.2.1
              have z3 := (World.cell?_of_block (a := ⟨gr, y, none⟩) (HU7.out.block _ (World.block_lt_of_cell? u6 (a := ⟨gr, y, none⟩) hHeld.2.2))).trans hHeld.2.2
              clear hHeld
              refine hK.out _ _ ⟨z1, z2, z3⟩ (fun hHeld => ?_)
              clear z1 z2 z3
              clear hK K
              try simp only [Act.put, List.getElem_toArray, List.getElem_cons_zero, List.getElem_cons_succ, List.setIfInBounds_toArray, List.set_cons_zero, List.set_cons_succ]
              refine wpAnyH_take (i := 36) (v := ?vt36) rfl (by kernel_rfl) (by kernel_rfl) (by kernel_rfl) (fun _ _ _ h => h) (Or.inl ⟨by rfl, ?yt36⟩) (by assumption) ?rt36
              case yt36 =>
                intro w hSw
                (try dsimp only at hSw)
                go_simp
                first | done | with_reducible rfl
              try simp only [Act.put, List.getElem_toArray, List.getElem_cons_zero, List.getElem_cons_succ, List.setIfInBounds_toArray, List.set_cons_zero, List.set_cons_succ]
              refine wpAnyH_take (i := 37) (v := ?vt37) rfl (by kernel_rfl) (by kernel_rfl) (by kernel_rfl) (fun _ _ _ h => h) (Or.inl ⟨by rfl, ?yt37⟩) (by assumption) ?rt37
              case yt37 =>
                intro w hSw
                (try dsimp only at hSw)
                go_simp
                first | done | with_reducible rfl
              try simp only [Act.put, List.getElem_toArray, List.getElem_cons_zero, List.getElem_cons_succ, List.setIfInBounds_toArray, List.set_cons_zero, List.set_cons_succ]
              refine wpAnyH_done (by kernel_rfl) ?_ _
              go_wp2_with fail
              go_ret
              exact ⟨rfl, HBR.out.trans ((((((((HU1.out).trans (HU2.out.mono HU1.out.size)).trans (HU3.out.mono (Nat.le_trans HU1.out.size HU2.out.size))).trans (HU4.out.mono (Nat.le_trans HU1.out.size (Nat.le_trans HU2.out.size HU3.out.size)))).trans (HU5.out.mono (Nat.le_trans HU1.out.size (Nat.le_trans HU2.out.size (Nat.le_trans HU3.out.size HU4.out.size))))).trans (HU6.out.mono (Nat.le_trans HU1.out.size (Nat.le_trans HU2.out.size (Nat.le_trans HU3.out.size (Nat.le_trans HU4.out.size HU5.out.size)))))).trans (HU7.out.mono (Nat.le_trans HU1.out.size (Nat.le_trans HU2.out.size (Nat.le_trans HU3.out.size (Nat.le_trans HU4.out.size (Nat.le_trans HU5.out.size HU6.out.size))))))).mono HBR.out.size)⟩
            | false =>
              clear hback
              go_wp2_with fail
              refine wp_region_held_drew (S := (fun w' => w'.cell? ⟨gt, y, none⟩ = some (.bool false) ∧ w'.cell? ⟨gr, x, none⟩ = some (.int .i64 (R x : Nat)) ∧ w'.cell? ⟨gr, y, none⟩ = some (.int .i64 (R y : Nat)))) (by kernel_rfl) ⟨z1, z2, z3⟩ (fun hHeld => ?_)
              refine wpAnyH_take (i := 0) (v := ?vf0) rfl (by kernel_rfl) (by kernel_rfl) (by kernel_rfl) (fun _ _ _ h => h) (Or.inl ⟨by rfl, ?yf0⟩) (by assumption) ?rf0
              case yf0 =>
                intro w hSw
                (try dsimp only at hSw)
                go_simp
                first | done | with_reducible rfl
              try simp only [Act.put, List.getElem_toArray, List.getElem_cons_zero, List.setIfInBounds_toArray, List.set_cons_zero, List.set_cons_succ]
              refine wpAnyH_take (i := 1) (v := ?vf1) rfl (by kernel_rfl) (by kernel_rfl) (by kernel_rfl) (fun _ _ _ h => h) (Or.inl ⟨by rfl, ?yf1⟩) (by assumption) ?rf1
              case yf1 =>
                intro w hSw
                (try dsimp only at hSw)
                go_simp
                first | done | with_reducible rfl
              try simp only [Act.put, List.getElem_toArray, List.getElem_cons_zero, List.getElem_cons_succ, List.setIfInBounds_toArray, List.set_cons_zero, List.set_cons_succ]
              refine wpAnyH_take (i := 2) (v := ?vf2) rfl (by kernel_rfl) (by kernel_rfl) (by kernel_rfl) (fun _ _ _ h => h) (Or.inl ⟨by rfl, ?yf2⟩) (by assumption) ?rf2
              case yf2 =>
                intro w hSw
                (try dsimp only at hSw)
                go_simp
                first | done | with_reducible rfl
              try simp only [Act.put, List.getElem_toArray, List.getElem_cons_zero, List.getElem_cons_succ, List.setIfInBounds_toArray, List.set_cons_zero, List.set_cons_succ]
              refine wpAnyH_take (i := 3) (v := ?vf3) rfl (by kernel_rfl) (by kernel_rfl) (by kernel_rfl) (fun _ _ _ h => h) (Or.inl ⟨by rfl, ?yf3⟩) (by assumption) ?rf3
              case yf3 =>
                intro w hSw
                (try dsimp only at hSw)
                go_simp
                first | done | with_reducible rfl
              try simp only [Act.put, List.getElem_toArray, List.getElem_cons_zero, List.getElem_cons_succ, List.setIfInBounds_toArray, List.set_cons_zero, List.set_cons_succ]
              refine wpAnyH_take (i := 4) (v := ?vf4) rfl (by kernel_rfl) (by kernel_rfl) (by kernel_rfl) (fun _ _ _ h => h) (Or.inl ⟨by rfl, ?yf4⟩) (by assumption) ?rf4
              case yf4 =>
                intro w hSw
                (try dsimp only at hSw)
                go_simp
                first | done | with_reducible rfl
              try simp only [Act.put, List.getElem_toArray, List.getElem_cons_zero, List.getElem_cons_succ, List.setIfInBounds_toArray, List.set_cons_zero, List.set_cons_succ]
              refine wpAnyH_take (i := 5) (v := ?vf5) rfl (by kernel_rfl) (by kernel_rfl) (by kernel_rfl) (fun _ _ _ h => h) (Or.inl ⟨by rfl, ?yf5⟩) (by assumption) ?rf5
              case yf5 =>
                intro w hSw
                (try dsimp only at hSw)
                go_simp
                first | done | with_reducible rfl
              try simp only [Act.put, List.getElem_toArray, List.getElem_cons_zero, List.getElem_cons_succ, List.setIfInBounds_toArray, List.set_cons_zero, List.set_cons_succ]
              refine wpAnyH_take (i := 6) (v := undef) rfl (by kernel_rfl) (by kernel_rfl) (by kernel_rfl) (fun _ _ _ h => h) (Or.inr ⟨by rfl, rfl⟩) (by assumption) ?rf6
              try simp only [Act.put, List.getElem_toArray, List.getElem_cons_zero, List.getElem_cons_succ, List.setIfInBounds_toArray, List.set_cons_zero, List.set_cons_succ]
              refine wpAnyH_take (i := 7) (v := undef) rfl (by kernel_rfl) (by kernel_rfl) (by kernel_rfl) (fun _ _ _ h => h) (Or.inr ⟨by rfl, rfl⟩) (by assumption) ?rf7
              try simp only [Act.put, List.getElem_toArray, List.getElem_cons_zero, List.getElem_cons_succ, List.setIfInBounds_toArray, List.set_cons_zero, List.set_cons_succ]
              refine wpAnyH_take (i := 8) (v := undef) rfl (by kernel_rfl) (by kernel_rfl) (by kernel_rfl) (fun _ _ _ h => h) (Or.inr ⟨by rfl, rfl⟩) (by assumption) ?rf8
              try simp only [Act.put, List.getElem_toArray, List.getElem_cons_zero, List.getElem_cons_succ, List.setIfInBounds_toArray, List.set_cons_zero, List.set_cons_succ]
              refine wpAnyH_take (i := 9) (v := undef) rfl (by kernel_rfl) (by kernel_rfl) (by kernel_rfl) (fun _ _ _ h => h) (Or.inr ⟨by rfl, rfl⟩) (by assumption) ?rf9
              try simp only [Act.put, List.getElem_toArray, List.getElem_cons_zero, List.getElem_cons_succ, List.setIfInBounds_toArray, List.set_cons_zero, List.set_cons_succ]
              refine wpAnyH_take (i := 10) (v := undef) rfl (by kernel_rfl) (by kernel_rfl) (by kernel_rfl) (fun _ _ _ h => h) (Or.inr ⟨by rfl, rfl⟩) (by assumption) ?rf10
              try simp only [Act.put, List.getElem_toArray, List.getElem_cons_zero, List.getElem_cons_succ, List.setIfInBounds_toArray, List.set_cons_zero, List.set_cons_succ]
              refine wpAnyH_take (i := 11) (v := undef) rfl (by kernel_rfl) (by kernel_rfl) (by kernel_rfl) (fun _ _ _ h => h) (Or.inr ⟨by rfl, rfl⟩) (by assumption) ?rf11
              try simp only [Act.put, List.getElem_toArray, List.getElem_cons_zero, List.getElem_cons_succ, List.setIfInBounds_toArray, List.set_cons_zero, List.set_cons_succ]
              refine wpAnyH_take (i := 12) (v := undef) rfl (by kernel_rfl) (by kernel_rfl) (by kernel_rfl) (fun _ _ _ h => h) (Or.inr ⟨by rfl, rfl⟩) (by assumption) ?rf12
              try simp only [Act.put, List.getElem_toArray, List.getElem_cons_zero, List.getElem_cons_succ, List.setIfInBounds_toArray, List.set_cons_zero, List.set_cons_succ]
              refine wpAnyH_take (i := 13) (v := undef) rfl (by kernel_rfl) (by kernel_rfl) (by kernel_rfl) (fun _ _ _ h => h) (Or.inr ⟨by rfl, rfl⟩) (by assumption) ?rf13
              try simp only [Act.put, List.getElem_toArray, List.getElem_cons_zero, List.getElem_cons_succ, List.setIfInBounds_toArray, List.set_cons_zero, List.set_cons_succ]
              refine wpAnyH_take (i := 14) (v := undef) rfl (by kernel_rfl) (by kernel_rfl) (by kernel_rfl) (fun _ _ _ h => h) (Or.inr ⟨by rfl, rfl⟩) (by assumption) ?rf14
              try simp only [Act.put, List.getElem_toArray, List.getElem_cons_zero, List.getElem_cons_succ, List.setIfInBounds_toArray, List.set_cons_zero, List.set_cons_succ]
              refine wpAnyH_take (i := 15) (v := ?vf15) rfl (by kernel_rfl) (by kernel_rfl) (by kernel_rfl) (fun _ _ _ h => h) (Or.inl ⟨by rfl, ?yf15⟩) (by assumption) ?rf15
              case yf15 =>
                intro w hSw
                (try dsimp only at hSw)
                go_simp
                first | done | with_reducible rfl
              try simp only [Act.put, List.getElem_toArray, List.getElem_cons_zero, List.getElem_cons_succ, List.setIfInBounds_toArray, List.set_cons_zero, List.set_cons_succ]
              refine wpAnyH_take (i := 16) (v := ?vf16) rfl (by kernel_rfl) (by kernel_rfl) (by kernel_rfl) (fun _ _ _ h => h) (Or.inl ⟨by rfl, ?yf16⟩) (by assumption) ?rf16
              case yf16 =>
                intro w hSw
                (try dsimp only at hSw)
                go_simp
                first | done | with_reducible rfl
              try simp only [Act.put, List.getElem_toArray, List.getElem_cons_zero, List.getElem_cons_succ, List.setIfInBounds_toArray, List.set_cons_zero, List.set_cons_succ]
              refine wpAnyH_take (i := 17) (v := ?vf17) rfl (by kernel_rfl) (by kernel_rfl) (by kernel_rfl) (fun _ _ _ h => h) (Or.inl ⟨by rfl, ?yf17⟩) (by assumption) ?rf17
              case yf17 =>
                intro w hSw
                (try dsimp only at hSw)
                go_simp
                first | done | with_reducible rfl
              try simp only [Act.put, List.getElem_toArray, List.getElem_cons_zero, List.getElem_cons_succ, List.setIfInBounds_toArray, List.set_cons_zero, List.set_cons_succ]
              refine wpAnyH_take (i := 18) (v := ?vf18) rfl (by kernel_rfl) (by kernel_rfl) (by kernel_rfl) (fun _ _ _ h => h) (Or.inl ⟨by rfl, ?yf18⟩) (by assumption) ?rf18
              case yf18 =>
                intro w hSw
                (try dsimp only at hSw)
                go_simp
                first | done | with_reducible rfl
              try simp only [Act.put, List.getElem_toArray, List.getElem_cons_zero, List.getElem_cons_succ, List.setIfInBounds_toArray, List.set_cons_zero, List.set_cons_succ]
              refine wpAnyH_take (i := 20) (v := ?vf20) rfl (by kernel_rfl) (by kernel_rfl) (by kernel_rfl) (fun _ _ _ h => h) (Or.inl ⟨by rfl, ?yf20⟩) (by assumption) ?rf20
              case yf20 =>
                intro w hSw
                (try dsimp only at hSw)
                go_simp
                first | done | with_reducible rfl
              try simp only [Act.put, List.getElem_toArray, List.getElem_cons_zero, List.getElem_cons_succ, List.setIfInBounds_toArray, List.set_cons_zero, List.set_cons_succ]
              refine wpAnyH_take (i := 21) (v := ?vf21) rfl (by kernel_rfl) (by kernel_rfl) (by kernel_rfl) (fun _ _ _ h => h) (Or.inl ⟨by rfl, ?yf21⟩) (by assumption) ?rf21
              case yf21 =>
                intro w hSw
                (try dsimp only at hSw)
                go_simp
                first | done | with_reducible rfl
              try simp only [Act.put, List.getElem_toArray, List.getElem_cons_zero, List.getElem_cons_succ, List.setIfInBounds_toArray, List.set_cons_zero, List.set_cons_succ]
              refine wpAnyH_ready (rs := [19]) (by kernel_rfl) (by simp) ?_
              refine AllReadyH.cons rfl (fun K hK => ?_) AllReadyH.nil
              go_simp
              refine (HRS.out wr.drew HES.out).mono ?_
              rintro e u1 ⟨g1, rfl, hg1, hb1'⟩
              go_wp2_with fail
              have HU1 := Lib.hid hb1'
              have HG1 := Lib.hid hg1
              clear hb1' hg1
              have z1 := (World.cell?_of_block (a := ⟨gt, y, none⟩) (HU1.out.block _ (World.block_lt_of_cell? wr (a := ⟨gt, y, none⟩) hHeld.1))).trans hHeld.1
              have z2 := (World.cell?_of_block (a := ⟨gr, x, none⟩) (HU1.out.block _ (World.block_lt_of_cell? wr (a := ⟨gr, x, none⟩) hHeld.2.1))).trans hHeld.2.1
              have z3 := (World.cell?_of_block (a := ⟨gr, y, none⟩) (HU1.out.block _ (World.block_lt_of_cell? wr (a := ⟨gr, y, none⟩) hHeld.2.2))).trans hHeld.2.2
              clear hHeld
              refine hK.out _ _ ⟨z1, z2, z3⟩ (fun hHeld => ?_)
              clear z1 z2 z3
              clear hK K
              try simp only [Act.put, List.getElem_toArray, List.getElem_cons_zero, List.getElem_cons_succ, List.setIfInBounds_toArray, List.set_cons_zero, List.set_cons_succ]
              refine wpAnyH_ready (rs := [22]) (by kernel_rfl) (by simp) ?_
              refine AllReadyH.cons rfl (fun K hK => ?_) AllReadyH.nil
              go_simp
              refine (HRL.out u1 (HEL.out.below HU1.out)).mono ?_
              rintro e u2 ⟨g2, rfl, hg2, hb2'⟩
              go_wp2_with fail
              have HU2 := Lib.hid hb2'
              have HG2 := Lib.hid hg2
              clear hb2' hg2
              have z1 := (World.cell?_of_block (a := ⟨gt, y, none⟩) (HU2.out.block _ (World.block_lt_of_cell? u1 (a := ⟨gt, y, none⟩) hHeld.1))).trans hHeld.1
              have z2 := (World.cell?_of_block (a := ⟨gr, x, none⟩) (HU2.out.block _ (World.block_lt_of_cell? u1 (a := ⟨gr, x, none⟩) hHeld.2.1))).trans hHeld.2.1
              have z3 := (World.cell?_of_block (a := ⟨gr, y, none⟩) (HU2.out.block _ (World.block_lt_of_cell? u1 (a := ⟨gr, y, none⟩) hHeld.2.2))).trans hHeld.2.2
              clear hHeld
              refine hK.out _ _ ⟨z1, z2, z3⟩ (fun hHeld => ?_)
              clear z1 z2 z3
              clear hK K
              try simp only [Act.put, List.getElem_toArray, List.getElem_cons_zero, List.getElem_cons_succ, List.setIfInBounds_toArray, List.set_cons_zero, List.set_cons_succ]
              refine wpAnyH_ready (rs := [23]) (by kernel_rfl) (by simp) ?_
              refine AllReadyH.cons rfl (fun K hK => ?_) AllReadyH.nil
              go_simp
              have hsm := sameints_any (RT k (m ++ [(x, x)] ++ m)) (RT k m) (some ⟨g1, 0, none⟩) (some ⟨g2, 0, none⟩) k k u2 ((IntsAt.block HG1.out).below HU2.out) (IntsAt.block HG2.out) (by rw [RT_length]; omega) (by rw [RT_length]; omega)
              rw [RT_length, RT_length, decide_eq_true HRTE.out] at hsm
              refine hsm.mono ?_
              rintro e u3 ⟨rfl, hb3'⟩
              go_wp2_with fail
              have HU3 := Lib.hid hb3'
              clear hb3' hsm
              have z1 := (World.cell?_of_block (a := ⟨gt, y, none⟩) (HU3.out.block _ (World.block_lt_of_cell? u2 (a := ⟨gt, y, none⟩) hHeld.1))).trans hHeld.1
              have z2 := (World.cell?_of_block (a := ⟨gr, x, none⟩) (HU3.out.block _ (World.block_lt_of_cell? u2 (a := ⟨gr, x, none⟩) hHeld.2.1))).trans hHeld.2.1
              have z3 := (World.cell?_of_block (a := ⟨gr, y, none⟩) (HU3.out.block _ (World.block_lt_of_cell? u2 (a := ⟨gr, y, none⟩) hHeld.2.2))).trans hHeld.2.2
              clear hHeld
              refine hK.out _ _ ⟨z1, z2, z3⟩ (fun hHeld => ?_)
              clear z1 z2 z3
              clear hK K
              try simp only [Act.put, List.getElem_toArray, List.getElem_cons_zero, List.getElem_cons_succ, List.setIfInBounds_toArray, List.set_cons_zero, List.set_cons_succ]
              refine wpAnyH_take (i := 24) (v := ?vf24) rfl (by kernel_rfl) (by kernel_rfl) (by kernel_rfl) (fun _ _ _ h => h) (Or.inl ⟨by rfl, ?yf24⟩) (by assumption) ?rf24
              case yf24 =>
                intro w hSw
                (try dsimp only at hSw)
                go_simp
                first | done | with_reducible rfl
              try simp only [Act.put, List.getElem_toArray, List.getElem_cons_zero, List.getElem_cons_succ, List.setIfInBounds_toArray, List.set_cons_zero, List.set_cons_succ]
              refine wpAnyH_take (i := 25) (v := ?vf25) rfl (by kernel_rfl) (by kernel_rfl) (by kernel_rfl) (fun _ _ _ h => h) (Or.inl ⟨by rfl, ?yf25⟩) (by assumption) ?rf25
              case yf25 =>
                intro w hSw
                (try dsimp only at hSw)
                go_simp
                first | done | with_reducible rfl
              try simp only [Act.put, List.getElem_toArray, List.getElem_cons_zero, List.getElem_cons_succ, List.setIfInBounds_toArray, List.set_cons_zero, List.set_cons_succ]
              refine wpAnyH_take (i := 26) (v := ?vf26) rfl (by kernel_rfl) (by kernel_rfl) (by kernel_rfl) (fun _ _ _ h => h) (Or.inl ⟨by rfl, ?yf26⟩) (by assumption) ?rf26
              case yf26 =>
                intro w hSw
                (try dsimp only at hSw)
                go_simp
                first | done | with_reducible rfl
              try simp only [Act.put, List.getElem_toArray, List.getElem_cons_zero, List.getElem_cons_succ, List.setIfInBounds_toArray, List.set_cons_zero, List.set_cons_succ]
              refine wpAnyH_take (i := 27) (v := ?vf27) rfl (by kernel_rfl) (by kernel_rfl) (by kernel_rfl) (fun _ _ _ h => h) (Or.inl ⟨by rfl, ?yf27⟩) (by assumption) ?rf27
              case yf27 =>
                intro w hSw
                (try dsimp only at hSw)
                go_simp
                first | done | with_reducible rfl
              try simp only [Act.put, List.getElem_toArray, List.getElem_cons_zero, List.getElem_cons_succ, List.setIfInBounds_toArray, List.set_cons_zero, List.set_cons_succ]
              refine wpAnyH_take (i := 29) (v := ?vf29) rfl (by kernel_rfl) (by kernel_rfl) (by kernel_rfl) (fun _ _ _ h => h) (Or.inl ⟨by rfl, ?yf29⟩) (by assumption) ?rf29
              case yf29 =>
                intro w hSw
                (try dsimp only at hSw)
                go_simp
                first | done | with_reducible rfl
              try simp only [Act.put, List.getElem_toArray, List.getElem_cons_zero, List.getElem_cons_succ, List.setIfInBounds_toArray, List.set_cons_zero, List.set_cons_succ]
              refine wpAnyH_take (i := 30) (v := ?vf30) rfl (by kernel_rfl) (by kernel_rfl) (by kernel_rfl) (fun _ _ _ h => h) (Or.inl ⟨by rfl, ?yf30⟩) (by assumption) ?rf30
              case yf30 =>
                intro w hSw
                (try dsimp only at hSw)
                go_simp
                first | done | with_reducible rfl
              try simp only [Act.put, List.getElem_toArray, List.getElem_cons_zero, List.getElem_cons_succ, List.setIfInBounds_toArray, List.set_cons_zero, List.set_cons_succ]
              refine wpAnyH_ready (rs := [28]) (by kernel_rfl) (by simp) ?_
              refine AllReadyH.cons rfl (fun K hK => ?_) AllReadyH.nil
              go_simp
              refine (HDS.out u3 (((HES.out.below HU1.out).below HU2.out).below HU3.out)).mono ?_
              rintro e u4 ⟨g4, rfl, hg4, hb4'⟩
              go_wp2_with fail
              have HU4 := Lib.hid hb4'
              have HG4 := Lib.hid hg4
              clear hb4' hg4
              have z1 := (World.cell?_of_block (a := ⟨gt, y, none⟩) (HU4.out.block _ (World.block_lt_of_cell? u3 (a := ⟨gt, y, none⟩) hHeld.1))).trans hHeld.1
              have z2 := (World.cell?_of_block (a := ⟨gr, x, none⟩) (HU4.out.block _ (World.block_lt_of_cell? u3 (a := ⟨gr, x, none⟩) hHeld.2.1))).trans hHeld.2.1
              have z3 := (World.cell?_of_block (a := ⟨gr, y, none⟩) (HU4.out.block _ (World.block_lt_of_cell? u3 (a := ⟨gr, y, none⟩) hHeld.2.2))).trans hHeld.2.2
              clear hHeld
              refine hK.out _ _ ⟨z1, z2, z3⟩ (fun hHeld => ?_)
              clear z1 z2 z3
              clear hK K
              try simp only [Act.put, List.getElem_toArray, List.getElem_cons_zero, List.getElem_cons_succ, List.setIfInBounds_toArray, List.set_cons_zero, List.set_cons_succ]
              refine wpAnyH_ready (rs := [31]) (by kernel_rfl) (by simp) ?_
              refine AllReadyH.cons rfl (fun K hK => ?_) AllReadyH.nil
              go_simp
              refine (HDL.out u4 ((((HEL.out.below HU1.out).below HU2.out).below HU3.out).below HU4.out)).mono ?_
              rintro e u5 ⟨g5, rfl, hg5, hb5'⟩
              go_wp2_with fail
              have HU5 := Lib.hid hb5'
              have HG5 := Lib.hid hg5
              clear hb5' hg5
              have z1 := (World.cell?_of_block (a := ⟨gt, y, none⟩) (HU5.out.block _ (World.block_lt_of_cell? u4 (a := ⟨gt, y, none⟩) hHeld.1))).trans hHeld.1
              have z2 := (World.cell?_of_block (a := ⟨gr, x, none⟩) (HU5.out.block _ (World.block_lt_of_cell? u4 (a := ⟨gr, x, none⟩) hHeld.2.1))).trans hHeld.2.1
              have z3 := (World.cell?_of_block (a := ⟨gr, y, none⟩) (HU5.out.block _ (World.block_lt_of_cell? u4 (a := ⟨gr, y, none⟩) hHeld.2.2))).trans hHeld.2.2
              clear hHeld
              refine hK.out _ _ ⟨z1, z2, z3⟩ (fun hHeld => ?_)
              clear z1 z2 z3
              clear hK K
              try simp only [Act.put, List.getElem_toArray, List.getElem_cons_zero, List.getElem_cons_succ, List.setIfInBounds_toArray, List.set_cons_zero, List.set_cons_succ]
              refine wpAnyH_ready (rs := [32]) (by kernel_rfl) (by simp) ?_
              refine AllReadyH.cons rfl (fun K hK => ?_) AllReadyH.nil
              go_simp
              have hsm := sameints_any (DT k (m ++ [(x, x)] ++ m)) (DT k m) (some ⟨g4, 0, none⟩) (some ⟨g5, 0, none⟩) k k u5 ((IntsAt.block HG4.out).below HU5.out) (IntsAt.block HG5.out) (by rw [DT_length hm]; omega) (by rw [DT_length HSOK.out]; omega)
              rw [DT_length HSOK.out, DT_length hm, decide_eq_true HDTE.out] at hsm
              refine hsm.mono ?_
              rintro e u6 ⟨rfl, hb6'⟩
              go_wp2_with fail
              have HU6 := Lib.hid hb6'
              clear hb6' hsm
              have z1 := (World.cell?_of_block (a := ⟨gt, y, none⟩) (HU6.out.block _ (World.block_lt_of_cell? u5 (a := ⟨gt, y, none⟩) hHeld.1))).trans hHeld.1
              have z2 := (World.cell?_of_block (a := ⟨gr, x, none⟩) (HU6.out.block _ (World.block_lt_of_cell? u5 (a := ⟨gr, x, none⟩) hHeld.2.1))).trans hHeld.2.1
              have z3 := (World.cell?_of_block (a := ⟨gr, y, none⟩) (HU6.out.block _ (World.block_lt_of_cell? u5 (a := ⟨gr, y, none⟩) hHeld.2.2))).trans hHeld.2.2
              clear hHeld
              refine hK.out _ _ ⟨z1, z2, z3⟩ (fun hHeld => ?_)
              clear z1 z2 z3
              clear hK K
              try simp only [Act.put, List.getElem_toArray, List.getElem_cons_zero, List.getElem_cons_succ, List.setIfInBounds_toArray, List.set_cons_zero, List.set_cons_succ]
              refine wpAnyH_take (i := 33) (v := ?vf33) rfl (by kernel_rfl) (by kernel_rfl) (by kernel_rfl) (fun _ _ _ h => h) (Or.inl ⟨by rfl, ?yf33⟩) (by assumption) ?rf33
              case yf33 =>
                intro w hSw
                (try dsimp only at hSw)
                go_simp
                first | done | with_reducible rfl
              try simp only [Act.put, List.getElem_toArray, List.getElem_cons_zero, List.getElem_cons_succ, List.setIfInBounds_toArray, List.set_cons_zero, List.set_cons_succ]
              refine wpAnyH_take (i := 34) (v := ?vf34) rfl (by kernel_rfl) (by kernel_rfl) (by kernel_rfl) (fun _ _ _ h => h) (Or.inl ⟨by rfl, ?yf34⟩) (by assumption) ?rf34
              case yf34 =>
                intro w hSw
                (try dsimp only at hSw)
                go_simp
                first | done | with_reducible rfl
              try simp only [Act.put, List.getElem_toArray, List.getElem_cons_zero, List.getElem_cons_succ, List.setIfInBounds_toArray, List.set_cons_zero, List.set_cons_succ]
              refine wpAnyH_ready (rs := [35]) (by kernel_rfl) (by simp) ?_
              refine AllReadyH.cons rfl (fun K hK => ?_) AllReadyH.nil
              go_simp
              refine (known_any u6).mono ?_
              rintro e u7 ⟨rfl, hb7'⟩
              go_wp2_with fail
              have HU7 := Lib.hid hb7'
              clear hb7'
              have z1 := (World.cell?_of_block (a := ⟨gt, y, none⟩) (HU7.out.block _ (World.block_lt_of_cell? u6 (a := ⟨gt, y, none⟩) hHeld.1))).trans hHeld.1
              have z2 := (World.cell?_of_block (a := ⟨gr, x, none⟩) (HU7.out.block _ (World.block_lt_of_cell? u6 (a := ⟨gr, x, none⟩) hHeld.2.1))).trans hHeld.2.1
              have z3 := (World.cell?_of_block (a := ⟨gr, y, none⟩) (HU7.out.block _ (World.block_lt_of_cell? u6 (a := ⟨gr, y, none⟩) hHeld.2.2))).trans hHeld.2.2
              clear hHeld
              refine hK.out _ _ ⟨z1, z2, z3⟩ (fun hHeld => ?_)
              clear z1 z2 z3
              clear hK K
              try simp only [Act.put, List.getElem_toArray, List.getElem_cons_zero, List.getElem_cons_succ, List.setIfInBounds_toArray, List.set_cons_zero, List.set_cons_succ]
              refine wpAnyH_take (i := 36) (v := ?vf36) rfl (by kernel_rfl) (by kernel_rfl) (by kernel_rfl) (fun _ _ _ h => h) (Or.inl ⟨by rfl, ?yf36⟩) (by assumption) ?rf36
              case yf36 =>
                intro w hSw
                (try dsimp only at hSw)
                go_simp
                first | done | with_reducible rfl
              try simp only [Act.put, List.getElem_toArray, List.getElem_cons_zero, List.getElem_cons_succ, List.setIfInBounds_toArray, List.set_cons_zero, List.set_cons_succ]
              refine wpAnyH_take (i := 37) (v := ?vf37) rfl (by kernel_rfl) (by kernel_rfl) (by kernel_rfl) (fun _ _ _ h => h) (Or.inl ⟨by rfl, ?yf37⟩) (by assumption) ?rf37
              case yf37 =>
                intro w hSw
                (try dsimp only at hSw)
                go_simp
                first | done | with_reducible rfl
              try simp only [Act.put, List.getElem_toArray, List.getElem_cons_zero, List.getElem_cons_succ, List.setIfInBounds_toArray, List.set_cons_zero, List.set_cons_succ]
              refine wpAnyH_done (by kernel_rfl) ?_ _
              go_wp2_with fail
              go_ret
              exact ⟨rfl, HBR.out.trans ((((((((HU1.out).trans (HU2.out.mono HU1.out.size)).trans (HU3.out.mono (Nat.le_trans HU1.out.size HU2.out.size))).trans (HU4.out.mono (Nat.le_trans HU1.out.size (Nat.le_trans HU2.out.size HU3.out.size)))).trans (HU5.out.mono (Nat.le_trans HU1.out.size (Nat.le_trans HU2.out.size (Nat.le_trans HU3.out.size HU4.out.size))))).trans (HU6.out.mono (Nat.le_trans HU1.out.size (Nat.le_trans HU2.out.size (Nat.le_trans HU3.out.size (Nat.le_trans HU4.out.size HU5.out.size)))))).trans (HU7.out.mono (Nat.le_trans HU1.out.size (Nat.le_trans HU2.out.size (Nat.le_trans HU3.out.size (Nat.le_trans HU4.out.size (Nat.le_trans HU5.out.size HU6.out.size))))))).mono HBR.out.size)⟩
end Go.Proofs.Yteigepblocbnlaa.Gp
