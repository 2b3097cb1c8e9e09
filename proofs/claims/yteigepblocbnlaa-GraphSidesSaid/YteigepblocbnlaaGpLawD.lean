/-
  The law GraphDeeper. (gen_gplawd.py)
-/
import Derived.Test.YteigepblocbnlaaGpLawT
namespace Go.Proofs.Yteigepblocbnlaa.Gp
open Go Go.RowKit Go.Shelf Go.Proofs
attribute [local go_sem] Oper.semAt_some

theorem cellI {w : World} {g N k : Nat} {R : Nat → Nat} (h : w.heap[g]? = some (.cells (valsI ((List.range N).map R)).toArray 3 (0, 0))) (hk : k < N) : w.cell? ⟨g, k, none⟩ = some (.int .i64 (R k : Nat)) := by
  rw [cell_of_row _ _ _ _ _ _ h, List.getElem?_toArray]
  exact valsI_get (by rw [List.getElem?_map, List.getElem?_range hk]; rfl)
theorem least_iff {A : List (List Nat)} {N i k : Nat} {R : Nat → Nat} (hR : ∀ x, x < N → IsLeast A N x (R x)) (hi : i < N) (hk : k < N) : R k = R i ↔ Mut A N i k := by
  constructor
  · intro h
    have a := (hR k hk).1
    have b := (hR i hi).1
    rw [h] at a
    exact b.trans a.symm
  · intro h
    exact IsLeast.uniq ((hR k hk)) ((hR i hi).same h)
/-- Is there, of the first k, one less deep? -/
def oneT (A : List (List Nat)) (N : Nat) (D : Nat → Nat) (i k : Nat) (one : Bool) : Prop := one = true ↔ (D i = 0 ∨ ∃ y, y < k ∧ Rch A N i y ∧ D y + 1 = D i)
theorem oneT_zero {A : List (List Nat)} {N : Nat} {D : Nat → Nat} {i : Nat} {b : Bool} (h : decide (D i = 0) = b) : oneT A N D i 0 b := by
  unfold oneT; rw [← h, decide_eq_true_iff]
  exact ⟨.inl, fun h => h.elim id fun ⟨y, hy, _⟩ => absurd hy (Nat.not_lt_zero _)⟩
theorem oneT_true {A : List (List Nat)} {N : Nat} {D : Nat → Nat} {i k : Nat} (h : oneT A N D i k true) : oneT A N D i (k + 1) true :=
  ⟨fun _ => (h.1 rfl).imp id fun ⟨y, hy, r⟩ => ⟨y, by omega, r⟩, fun _ => rfl⟩
theorem oneT_yes {A : List (List Nat)} {N : Nat} {D : Nat → Nat} {i k : Nat} (_h : oneT A N D i k false) (h1 : Rch A N i k) (h2 : D k + 1 = D i) : oneT A N D i (k + 1) true :=
  ⟨fun _ => .inr ⟨k, by omega, h1, h2⟩, fun _ => rfl⟩
theorem oneT_no {A : List (List Nat)} {N : Nat} {D : Nat → Nat} {i k : Nat} (h : oneT A N D i k false) (h1 : ¬ Rch A N i k ∨ ¬ D k + 1 = D i) : oneT A N D i (k + 1) false := by
  refine ⟨fun h => (by cases h), fun hh => ?_⟩
  refine h.2 (hh.imp id fun ⟨y, hy, r, e⟩ => ?_)
  rcases Nat.lt_or_ge y k with hlt | hge
  · exact ⟨y, hlt, r, e⟩
  · obtain rfl : y = k := by omega
    rcases h1 with h1 | h1
    · exact absurd r h1
    · exact absurd e h1
theorem oneT_end {A : List (List Nat)} {N : Nat} {D : Nat → Nat} {i : Nat} {one : Bool} (hD : Deep A N D) (hi : i < N) (h : oneT A N D i N one) : one = true := by
  refine h.2 ((hD.by1 i hi).imp id fun ⟨x', y, m, hy, e, _, h1⟩ => ⟨y, hy, m.1.trans (Rch.edge m.1.lt.2 hy e), h1.symm⟩)
theorem deep_small {A : List (List Nat)} {N : Nat} {D : Nat → Nat} (hD : Deep A N D) {i : Nat} (hi : i < N) (hN : N ≤ 60) : D i ≤ 9000000000000 := by
  -- by as many steps down as it is deep, each to another node: no more than nodes
  have key : ∀ k x, x < N → D x = k → ∃ l : List Nat, l.length = k + 1 ∧ (∀ y ∈ l, y < N) ∧ (l.map D).Pairwise (· > ·) ∧ l.head? = some x := by
    intro k
    induction k with
    | zero => intro x hx h; exact ⟨[x], rfl, fun y hy => by simp at hy; omega, by simp, rfl⟩
    | succ k ih =>
      intro x hx h
      rcases hD.by1 x hx with h0 | ⟨x', y, _, hy, _, _, h1⟩
      · omega
      · obtain ⟨l, hl, hlt, hp, hh⟩ := ih y hy (by omega)
        refine ⟨x :: l, by simp [hl], fun z hz => by rcases List.mem_cons.1 hz with rfl | hz; exact hx; exact hlt z hz, ?_, rfl⟩
        rw [List.map_cons, List.pairwise_cons]
        refine ⟨fun z hz => ?_, hp⟩
        obtain ⟨u, hu, rfl⟩ := List.mem_map.1 hz
        cases l with
        | nil => simp at hu
        | cons a r =>
          simp at hh; subst hh
          rw [List.map_cons, List.pairwise_cons] at hp
          rcases List.mem_cons.1 hu with rfl | hu
          · omega
          · have := hp.1 _ (List.mem_map.2 ⟨u, hu, rfl⟩); omega
  obtain ⟨l, hl, hlt, hp, _⟩ := key (D i) i hi rfl
  have hnd : l.Nodup := List.Pairwise.imp (R := fun a b => D a > D b) (fun h e => by subst e; omega) (List.pairwise_map.1 hp)
  have hsub : l.length ≤ (List.range N).length := List.Nodup.length_le_of_subset hnd (fun x hx => List.mem_range.2 (hlt x hx))
  rw [List.length_range] at hsub
  omega
set_option maxRecDepth 100000 in
set_option maxHeartbeats 16000000 in
theorem graphdeeper_any (n : Int) (A : Option Addr) (c : Nat) (l : List EI) (w : World) (hl : EdgesAt w A l) :
    Calls Try.prog 4 #[.int .i64 n, .slice A l.length c] w fun e w' => e = .returned (.bool true) ∧ Below w.heap.size w w' := by
  have HS := Lib.hid (small_any n A l.length c w)
  cases hs : smallB n l.length with
  | false =>
    rw [hs] at HS
    clear hs
    go_enter Try.func4, Try.ntmps4
    go_wp2_with fail
    refine HS.out.mono ?_
    rintro e w1 ⟨rfl, hw1⟩
    have hw1 := hw1.symm; subst hw1
    go_wp2_with fail
    refine (known_any _).mono ?_
    rintro e w2 ⟨rfl, hb2⟩
    go_wp2_with fail
    go_ret
    exact ⟨rfl, hb2⟩
  | true =>
    rw [hs] at HS
    have hs2 := hs
    unfold smallB at hs2
    simp only [Bool.and_eq_true, decide_eq_true_eq] at hs2
    have HR := Lib.hid (right_any n A c l w hl (by omega))
    cases hr : rightB n l with
    | false =>
      rw [hr] at HR
      clear hs hr hs2
      go_enter Try.func4, Try.ntmps4
      go_wp2_with fail
      refine HS.out.mono ?_
      rintro e w1 ⟨rfl, hw1⟩
      have hw1 := hw1.symm; subst hw1
      go_wp2_with fail
      refine HR.out.mono ?_
      rintro e w1 ⟨rfl, hb1⟩
      go_wp2_with fail
      refine (known_any _).mono ?_
      rintro e w2 ⟨rfl, hb2⟩
      go_wp2_with fail
      go_ret
      exact ⟨rfl, hb1.trans (hb2.mono hb1.size)⟩
    | true =>
      rw [hr] at HR
      obtain ⟨N, m, rfl, rfl, hN, hm⟩ := right_nats hr
      rw [castE_length] at *
      have HL := Lib.hid hl
      have hN60 : N ≤ 60 := by omega
      have hm150 : m.length ≤ 150 := by omega
      have HRT := Lib.hid hr
      obtain ⟨M, hM⟩ : ∃ M, m.length = M := ⟨_, rfl⟩
      have HM := Lib.hid hM
      rw [hM] at HR HS hm150 ⊢
      clear hM
      clear hs hr hs2
      go_enter Try.func4, Try.ntmps4
      go_wp2_with fail
      refine HS.out.mono ?_
      rintro e w1 ⟨rfl, hw1⟩
      have hw1 := hw1.symm; subst hw1
      go_wp2_with fail
      refine HR.out.mono ?_
      rintro e w1 ⟨rfl, hb1⟩
      go_wp2_with fail
      have hri := rings_any N A c m w1 (HL.out.below hb1) (by have := HM.out; omega) (by omega) hm HRT.out
      rw [HM.out] at hri
      have HRI := Lib.hid hri
      have HB1 := Lib.hid hb1
      clear hri hb1 HR
      refine HRI.out.mono ?_
      rintro e w2 ⟨gr, rfl, hgr, hb2⟩
      have hde := depths_any N A c m w2 ((HL.out.below HB1.out).below hb2) (by have := HM.out; omega) (by omega) hm HRT.out
      rw [HM.out] at hde
      have HDE := Lib.hid hde
      have HB2 := Lib.hid (HB1.out.trans (hb2.mono HB1.out.size))
      have HGR := Lib.hid hgr
      clear hde hb2 hgr
      go_wp2_with fail
      refine HDE.out.mono ?_
      rintro e w3 ⟨gd, rfl, hgd, hb3⟩
      obtain ⟨R, hR, eR⟩ := RT_least hm
      obtain ⟨D, hD, eD, _⟩ := DT_deep hm
      have hgr3 := (hb3.block _ (Array.getElem?_eq_some_iff.1 HGR.out).1).trans HGR.out
      rw [eR] at hgr3
      rw [eD] at hgd
      have HGR3 := Lib.hid hgr3
      have HGD3 := Lib.hid hgd
      have HB3 := Lib.hid (HB2.out.trans (hb3.mono HB2.out.size))
      have HR := Lib.hid hR
      have HD := Lib.hid hD
      have n1 : ((N : Int) != (N : Int)) = false := by simp
      clear hgr3 hgd hb3 hR hD eR eD HDE
      go_wp2_with fail
      go_loopw [7] (fun i wr => ∃ (i' : Nat), i' ≤ N ∧ i = .int .i64 i' ∧ Hid (Below w3.heap.size w3 wr)) (fun i _ => N - (intOf i).toNat)
      case atStart => exact ⟨0, Nat.zero_le _, rfl, Below.refl _ _⟩
      case round =>
        obtain ⟨i, hi, rfl, HB⟩ := hrel
        by_cases h1 : i < N
        · obtain ⟨w4, hw4⟩ : ∃ w4, w4 = wr := ⟨_, rfl⟩
          subst hw4
          have hre := reach_any N i A c m w4 ((HL.out.below HB3.out).below HB.out) (by have := HM.out; omega) (by omega) hm HRT.out h1
          rw [HM.out] at hre
          have HRE := Lib.hid hre
          have q1 : (i : Int) < (N : Int) := by omega
          have wi : IntKind.i64.wrap (i : Int) = (i : Int) := IntWalk.i64_in _ (by omega)
          clear hre
          go_wp2_with fail
          refine HRE.out.mono ?_
          rintro e w5 ⟨gt, rfl, hgt, hb5⟩
          have HB4 := Lib.hid (HB.out.trans (hb5.mono HB.out.size))
          have HGT := Lib.hid hgt
          have hdi : w5.cell? ⟨gd, i, none⟩ = some (.int .i64 (D i : Nat)) := cellI ((HB4.out.block _ (Array.getElem?_eq_some_iff.1 HGD3.out).1).trans HGD3.out) h1
          clear hgt hb5 HRE
          obtain ⟨o0, ho0⟩ : ∃ o0, decide (D i = 0) = o0 := ⟨_, rfl⟩
          have e0 : (((D i : Nat) : Int) == 0) = o0 := by rw [← ho0]; rw [Bool.eq_iff_iff]; simp
          have HO0 := Lib.hid ho0
          clear ho0
          go_wp2_with fail
          clear hdi e0
          go_loopw [9, 10] (fun z y wr => ∃ (k : Nat) (one : Bool), k ≤ N ∧ z = .bool one ∧ y = .int .i64 k ∧ Hid (oneT (adjT N m) N D i k one) ∧ Hid (Below w5.heap.size w5 wr)) (fun _ y _ => N - (intOf y).toNat)
          case atStart => exact ⟨0, _, Nat.zero_le _, by go_num, rfl, oneT_zero HO0.out, Below.refl _ _⟩
          case round =>
            obtain ⟨k, one, hk, rfl, rfl, HONE, HB5⟩ := hrel
            by_cases h2 : k < N
            · have hgr5 := (HB5.out.block _ (by have := HB4.out.size; have := (Array.getElem?_eq_some_iff.1 HGR3.out).1; omega)).trans ((HB4.out.block _ (Array.getElem?_eq_some_iff.1 HGR3.out).1).trans HGR3.out)
              have hgd5 := (HB5.out.block _ (by have := HB4.out.size; have := (Array.getElem?_eq_some_iff.1 HGD3.out).1; omega)).trans ((HB4.out.block _ (Array.getElem?_eq_some_iff.1 HGD3.out).1).trans HGD3.out)
              have hgt5 := (HB5.out.block _ (Array.getElem?_eq_some_iff.1 HGT.out).1).trans HGT.out
              obtain ⟨tk, hptk, itk⟩ := RC_rch (N := N) (m := m) (x := i) (y := k) h1 h2
              have c1 := BoolsAt hgt5 hptk
              have c2 := cellI hgr5 h2
              have c3 := cellI hgr5 h1
              have c4 := cellI hgd5 h2
              have c5 := cellI hgd5 h1
              have q2 : (k : Int) < (N : Int) := by omega
              have wk : IntKind.i64.wrap (k : Int) = (k : Int) := IntWalk.i64_in _ (by omega)
              have hDi : D i ≤ 9000000000000 := deep_small HD.out h1 (by omega)
              have wd : IntKind.i64.wrap (((D i : Nat) : Int) - 1) = ((D i : Nat) : Int) - 1 := IntWalk.i64_in _ (by omega)
              have hring : R k = R i ↔ Mut (adjT N m) N i k := least_iff HR.out h1 h2
              clear hgr5 hgd5 hgt5 hptk
              cases tk with
              | false =>
                have hnr : ¬ Rch (adjT N m) N i k := fun h => by have := itk.2 h; cases this
                have HTK := Lib.hid hnr
                have hne : R k ≠ R i := fun h => hnr (hring.1 h).1
                have g1 : (((R k : Nat) : Int) == ((R i : Nat) : Int)) = false := by rw [beq_eq_false_iff_ne]; omega
                clear itk hring hnr hne
                go_wp2_with fail
                go_quiet (fail)
                go_wp2_with fail
                cases one with
                | true =>
                  go_wp2_with fail
                  go_quiet (fail)
                  go_wp2_with fail
                  go_roundw
                  case rel =>
                    refine ⟨k + 1, true, by omega, rfl, by go_num, ?_, belowQ HB5.out _⟩
                    exact oneT_true HONE.out
                  case measure => simp [intOf]; omega
                | false =>
                  go_wp2_with fail
                  go_quiet (fail)
                  go_wp2_with fail
                  go_roundw
                  case rel =>
                    refine ⟨k + 1, false, by omega, rfl, by go_num, ?_, belowQ HB5.out _⟩
                    exact oneT_no HONE.out (.inl HTK.out)
                  case measure => simp [intOf]; omega
              | true =>
                have htk : Rch (adjT N m) N i k := itk.1 rfl
                have HTK := Lib.hid htk
                by_cases hrr : R k = R i
                · have hdd : D k = D i := (HD.out.ring _ _ (hring.1 hrr)).symm
                  have g1 : (((R k : Nat) : Int) != ((R i : Nat) : Int)) = false := by simp [hrr]
                  have g2 : (((R k : Nat) : Int) == ((R i : Nat) : Int)) = true := by simp [hrr]
                  have g3 : (((D i : Nat) : Int) != ((D k : Nat) : Int)) = false := by simp [hdd]
                  clear itk hring hrr hdd htk
                  go_wp2_with fail
                  go_quiet (fail)
                  go_wp2_with fail
                  cases one with
                  | true =>
                    go_wp2_with fail
                    go_quiet (fail)
                    go_wp2_with fail
                    go_roundw
                    case rel =>
                      refine ⟨k + 1, true, by omega, rfl, by go_num, ?_, belowQ HB5.out _⟩
                      exact oneT_true HONE.out
                    case measure => simp [intOf]; omega
                  | false =>
                    by_cases hd1 : D k + 1 = D i
                    · have e1 : (((D k : Nat) : Int) == ((D i : Nat) : Int) - 1) = true := by rw [beq_iff_eq]; omega
                      have HD1 := Lib.hid hd1
                      clear hd1
                      go_wp2_with fail
                      go_quiet (fail)
                      go_wp2_with fail
                      go_roundw
                      case rel =>
                        refine ⟨k + 1, true, by omega, rfl, by go_num, ?_, belowQ HB5.out _⟩
                        exact oneT_yes HONE.out HTK.out HD1.out
                      case measure => simp [intOf]; omega
                    · by_cases hd0 : D i = 0
                      · exact absurd (HONE.out.2 (.inl hd0)) (by simp)
                      · have e1 : (((D k : Nat) : Int) == ((D i : Nat) : Int) - 1) = false := by rw [beq_eq_false_iff_ne]; omega
                        have HD1 := Lib.hid hd1
                        clear hd1 hd0
                        go_wp2_with fail
                        go_quiet (fail)
                        go_wp2_with fail
                        go_roundw
                        case rel =>
                          refine ⟨k + 1, false, by omega, rfl, by go_num, ?_, belowQ HB5.out _⟩
                          exact oneT_no HONE.out (.inr HD1.out)
                        case measure => simp [intOf]; omega
                · have hdd : D k < D i := by
                    rcases HD.out.way htk with h | h
                    · exact absurd (hring.2 h) hrr
                    · exact h
                  have g1 : (((R k : Nat) : Int) != ((R i : Nat) : Int)) = true := by simp; omega
                  have g2 : (((R k : Nat) : Int) == ((R i : Nat) : Int)) = false := by rw [beq_eq_false_iff_ne]; omega
                  have g3 : decide (D i ≤ D k) = false := decide_eq_false (by omega)
                  have g4 : (D i ≤ D k) = False := eq_false (by omega)
                  clear itk hring hrr hdd htk
                  go_wp2_with fail
                  go_quiet (fail)
                  go_wp2_with fail
                  cases one with
                  | true =>
                    go_wp2_with fail
                    go_quiet (fail)
                    go_wp2_with fail
                    go_roundw
                    case rel =>
                      refine ⟨k + 1, true, by omega, rfl, by go_num, ?_, belowQ HB5.out _⟩
                      exact oneT_true HONE.out
                    case measure => simp [intOf]; omega
                  | false =>
                    by_cases hd1 : D k + 1 = D i
                    · have e1 : (((D k : Nat) : Int) == ((D i : Nat) : Int) - 1) = true := by rw [beq_iff_eq]; omega
                      have HD1 := Lib.hid hd1
                      clear hd1
                      go_wp2_with fail
                      go_quiet (fail)
                      go_wp2_with fail
                      go_roundw
                      case rel =>
                        refine ⟨k + 1, true, by omega, rfl, by go_num, ?_, belowQ HB5.out _⟩
                        exact oneT_yes HONE.out HTK.out HD1.out
                      case measure => simp [intOf]; omega
                    · by_cases hd0 : D i = 0
                      · exact absurd (HONE.out.2 (.inl hd0)) (by simp)
                      · have e1 : (((D k : Nat) : Int) == ((D i : Nat) : Int) - 1) = false := by rw [beq_eq_false_iff_ne]; omega
                        have HD1 := Lib.hid hd1
                        clear hd1 hd0
                        go_wp2_with fail
                        go_quiet (fail)
                        go_wp2_with fail
                        go_roundw
                        case rel =>
                          refine ⟨k + 1, false, by omega, rfl, by go_num, ?_, belowQ HB5.out _⟩
                          exact oneT_no HONE.out (.inr HD1.out)
                        case measure => simp [intOf]; omega
            · obtain rfl : k = N := by omega
              obtain rfl : one = true := oneT_end HD.out h1 HONE.out
              have hgr5 := (HB5.out.block _ (by have := HB4.out.size; have := (Array.getElem?_eq_some_iff.1 HGR3.out).1; omega)).trans ((HB4.out.block _ (Array.getElem?_eq_some_iff.1 HGR3.out).1).trans HGR3.out)
              have c3 := cellI hgr5 h1
              have hri : R i ≤ i := (HR.out i h1).2 i (.refl h1)
              have g1 : decide (i < R i) = false := decide_eq_false (by omega)
              have g2 : (i < R i) = False := eq_false (by omega)
              clear hgr5 hri
              go_wp2_with fail
              exact ⟨⟨i + 1, by omega, by go_num, HB4.out.trans (HB5.out.mono HB4.out.size)⟩, by simp only [intOf]; omega⟩
        · obtain rfl : i = N := by omega
          go_wp2_with fail
          refine (known_any _).mono ?_
          rintro e w7 ⟨rfl, hb7⟩
          go_wp2_with fail
          go_ret
          exact ⟨rfl, HB3.out.trans ((HB.out.trans (hb7.mono HB.out.size)).mono HB3.out.size)⟩
end Go.Proofs.Yteigepblocbnlaa.Gp
