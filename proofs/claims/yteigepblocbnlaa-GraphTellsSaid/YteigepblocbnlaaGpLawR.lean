/-
  The law GraphReaches. (gen_gplawr.py)
-/
import Derived.Test.YteigepblocbnlaaGpKnown
namespace Go.Proofs.Yteigepblocbnlaa.Gp
open Go Go.RowKit Go.Shelf Go.Proofs
attribute [local go_sem] Oper.semAt_some

theorem BoolsAt {w : World} {g : Nat} {l : List Bool} {i : Nat} {x : Bool} (h : w.heap[g]? = some (.cells (cellsB l) 4 (0, 0))) (hx : l[i]? = some x) : w.cell? ⟨g, i, none⟩ = some (.bool x) := (cell_of_row _ _ _ _ _ _ h).trans (cellsB_get hx)
set_option maxRecDepth 100000 in
set_option maxHeartbeats 16000000 in
theorem graphreaches_any (n : Int) (A : Option Addr) (c : Nat) (l : List EI) (a b : Nat) (w : World) (hl : EdgesAt w A l) (ha : a < 256) (hb : b < 256) :
    Calls Try.prog 9 #[.int .i64 n, .slice A l.length c, .int .u8 a, .int .u8 b] w fun e w' => e = .returned (.bool true) ∧ Below w.heap.size w w' := by
  have HS := Lib.hid (small_any n A l.length c w)
  cases hs : smallB n l.length with
  | false =>
    rw [hs] at HS
    clear hs
    go_enter Try.func9, Try.ntmps9
    go_wp2_with fail
    refine HS.out.mono ?_
    rintro e w1 ⟨rfl, hw1⟩
    have hw1 := hw1.symm; subst hw1
    go_wp2_with fail
    refine (known_any _).mono ?_
    rintro e w2 ⟨rfl, hb2⟩
    go_wp2_with fail
    go_ret
    exact ⟨rfl, hb2⟩
  | true =>
    rw [hs] at HS
    have hs2 := hs
    unfold smallB at hs2
    simp only [Bool.and_eq_true, decide_eq_true_eq] at hs2
    have HR := Lib.hid (right_any n A c l w hl (by omega))
    cases hr : rightB n l with
    | false =>
      rw [hr] at HR
      clear hs hr hs2
      go_enter Try.func9, Try.ntmps9
      go_wp2_with fail
      refine HS.out.mono ?_
      rintro e w1 ⟨rfl, hw1⟩
      have hw1 := hw1.symm; subst hw1
      go_wp2_with fail
      refine HR.out.mono ?_
      rintro e w1 ⟨rfl, hb1⟩
      go_wp2_with fail
      refine (known_any _).mono ?_
      rintro e w2 ⟨rfl, hb2⟩
      go_wp2_with fail
      go_ret
      exact ⟨rfl, hb1.trans (hb2.mono hb1.size)⟩
    | true =>
      rw [hr] at HR
      obtain ⟨N, m, rfl, rfl, hN, hm⟩ := right_nats hr
      rw [castE_length] at *
      have HL := Lib.hid hl
      by_cases h0 : N < 1
      · have k1 : ((N : Int) < 1) := by omega
        clear hs hr hs2
        go_enter Try.func9, Try.ntmps9
        go_wp2_with fail
        refine HS.out.mono ?_
        rintro e w1 ⟨rfl, hw1⟩
        have hw1 := hw1.symm; subst hw1
        go_wp2_with fail
        refine HR.out.mono ?_
        rintro e w1 ⟨rfl, hb1⟩
        go_wp2_with fail
        refine (known_any _).mono ?_
        rintro e w2 ⟨rfl, hb2⟩
        go_wp2_with fail
        go_ret
        exact ⟨rfl, hb1.trans (hb2.mono hb1.size)⟩
      · have k1 : ¬ ((N : Int) < 1) := by omega
        have k2 : ¬ ((N : Int) = 0) := by omega
        have hN60 : N ≤ 60 := by omega
        have hm150 : m.length ≤ 150 := by omega
        have HRT := Lib.hid hr
        obtain ⟨x, hx⟩ : ∃ x, a % N = x := ⟨_, rfl⟩
        obtain ⟨y, hy⟩ : ∃ y, b % N = y := ⟨_, rfl⟩
        have ex : (a : Int) % (N : Int) = (x : Int) := by rw [← hx]; rfl
        have ey : (b : Int) % (N : Int) = (y : Int) := by rw [← hy]; rfl
        have hxN : x < N := by rw [← hx]; exact Nat.mod_lt _ (by omega)
        have hyN : y < N := by rw [← hy]; exact Nat.mod_lt _ (by omega)
        obtain ⟨M, hM⟩ : ∃ M, m.length = M := ⟨_, rfl⟩
        have HM := Lib.hid hM
        rw [hM] at HR HS hm150 ⊢
        clear hx hy hM
        clear hs hr hs2
        go_enter Try.func9, Try.ntmps9
        go_wp2_with fail
        refine HS.out.mono ?_
        rintro e w1 ⟨rfl, hw1⟩
        have hw1 := hw1.symm; subst hw1
        go_wp2_with fail
        refine HR.out.mono ?_
        rintro e w1 ⟨rfl, hb1⟩
        go_wp2_with fail
        have hre := reach_any N x A c m w1 (HL.out.below hb1) (by have := HM.out; omega) (by omega) hm HRT.out hxN
        rw [HM.out] at hre
        have HRE := Lib.hid hre
        have HB1 := Lib.hid hb1
        clear hre hb1 HR
        refine HRE.out.mono ?_
        rintro e w2 ⟨gp, rfl, hgp, hb2⟩
        have hre := reach_any N y A c m w2 ((HL.out.below HB1.out).below hb2) (by have := HM.out; omega) (by omega) hm HRT.out hyN
        rw [HM.out] at hre
        have HRE := Lib.hid hre
        have HB2 := Lib.hid hb2
        have HGP := Lib.hid hgp
        clear hre hb2 hgp
        go_wp2_with fail
        refine HRE.out.mono ?_
        rintro e w3 ⟨gq, rfl, hgq, hb3⟩
        have HB3 := Lib.hid (HB1.out.trans ((HB2.out.trans (hb3.mono HB2.out.size)).mono HB1.out.size))
        have HGQ := Lib.hid hgq
        have HGP3 := Lib.hid ((hb3.block _ (Array.getElem?_eq_some_iff.1 HGP.out).1).trans HGP.out)
        obtain ⟨px, hpx, ipx⟩ := RC_rch (N := N) (m := m) (x := x) (y := x) hxN hxN
        obtain rfl : px = true := ipx.2 (.refl hxN)
        have c1 := BoolsAt HGP3.out hpx
        have kx : (x : Int) < (N : Int) := by omega
        have ky : (y : Int) < (N : Int) := by omega
        have wx : IntKind.i64.wrap (x : Int) = (x : Int) := IntWalk.i64_in _ (by omega)
        have wy : IntKind.i64.wrap (y : Int) = (y : Int) := IntWalk.i64_in _ (by omega)
        have n1 : ((N : Int) != (N : Int)) = false := by simp
        obtain ⟨py, hpy, ipy⟩ := RC_rch (N := N) (m := m) (x := x) (y := y) hxN hyN
        have HPY := Lib.hid hpy
        have HIPY := Lib.hid ipy
        clear hb3 hgq hpx ipx hpy ipy HRE ex ey
        go_wp2_with fail
        clear c1 n1
        go_loopw [13] (fun i wr => ∃ (k : Nat), k ≤ N ∧ i = .int .i64 k ∧ Hid (Below w3.heap.size w3 wr)) (fun i _ => N - (intOf i).toNat)
        case atStart => exact ⟨0, Nat.zero_le _, rfl, Below.refl _ _⟩
        case round =>
          obtain ⟨k, hk, rfl, HB⟩ := hrel
          by_cases h1 : k < N
          · obtain ⟨qk, hqk, iqk⟩ := RC_rch (N := N) (m := m) (x := y) (y := k) hyN h1
            obtain ⟨pk, hpk, ipk⟩ := RC_rch (N := N) (m := m) (x := x) (y := k) hxN h1
            have gp3 := (HB.out.block _ (Array.getElem?_eq_some_iff.1 HGP3.out).1).trans HGP3.out
            have gq3 := (HB.out.block _ (Array.getElem?_eq_some_iff.1 HGQ.out).1).trans HGQ.out
            have c1 := BoolsAt gp3 HPY.out
            have c2 := BoolsAt gq3 hqk
            have c3 := BoolsAt gp3 hpk
            have himp : py = true → qk = true → pk = true := fun h1 h2 => ipk.2 (Wy.trans (HIPY.out.1 h1) (iqk.1 h2))
            have q1 : (k : Int) < (N : Int) := by omega
            have wk : IntKind.i64.wrap (k : Int) = (k : Int) := IntWalk.i64_in _ (by omega)
            clear hqk iqk hpk ipk gp3 gq3
            cases py with
            | false =>
              clear himp
              go_wp2_with fail
              go_roundw
              case rel => exact ⟨k + 1, by omega, by go_num, HB.out⟩
              case measure => simp [intOf]; omega
            | true =>
              cases qk with
              | false =>
                clear himp
                go_wp2_with fail
                go_roundw
                case rel => exact ⟨k + 1, by omega, by go_num, HB.out⟩
                case measure => simp [intOf]; omega
              | true =>
                obtain rfl := himp rfl rfl
                clear himp
                go_wp2_with fail
                go_roundw
                case rel => exact ⟨k + 1, by omega, by go_num, HB.out⟩
                case measure => simp [intOf]; omega
          · obtain rfl : k = N := by omega
            obtain ⟨wc, hwc⟩ : ∃ wc, wc = wr := ⟨_, rfl⟩
            subst hwc
            go_wp2_with fail
            go_loopw [14] (fun i wr => ∃ (j : Nat), j ≤ M ∧ i = .int .i64 j ∧ Hid (Below w3.heap.size w3 wr)) (fun i _ => M - (intOf i).toNat)
            case atStart => exact ⟨0, Nat.zero_le _, rfl, HB.out⟩
            case round =>
              obtain ⟨j, hj, rfl, HB2⟩ := hrel
              by_cases h1 : j < M
              · obtain ⟨⟨ef, et⟩, he⟩ : ∃ e, m[j]? = some e := ⟨_, List.getElem?_eq_getElem (by have := HM.out; omega)⟩
                have hem := hm _ (List.mem_of_getElem? he)
                obtain ⟨g, o, hA, hc⟩ := ((HL.out.below HB3.out).below HB2.out) (by rw [castE_length]; have := HM.out; omega)
                obtain ⟨d1, d2⟩ := hc j _ (castE_get he)
                obtain ⟨pf, hpf, ipf⟩ := RC_rch (N := k) (m := m) (x := x) (y := ef) hxN hem.1
                obtain ⟨pt, hpt, ipt⟩ := RC_rch (N := k) (m := m) (x := x) (y := et) hxN hem.2
                have gp3 := (HB2.out.block _ (Array.getElem?_eq_some_iff.1 HGP3.out).1).trans HGP3.out
                have c1 := BoolsAt gp3 hpf
                have c2 := BoolsAt gp3 hpt
                have himp : pf = true → pt = true := fun h1 => ipt.2 (Wy.trans (ipf.1 h1) (Rch.edge hem.1 hem.2 ((row_adjT (fun e he => (hm e he).1) _ _).2 (List.mem_of_getElem? he))))
                have q1 : (j : Int) < (M : Int) := by omega
                have q2 : (ef : Int) < (k : Int) := by omega
                have q3 : (et : Int) < (k : Int) := by omega
                have w1' : IntKind.i64.wrap (j : Int) = (j : Int) := IntWalk.i64_in _ (by omega)
                have w2' : IntKind.i64.wrap (ef : Int) = (ef : Int) := IntWalk.i64_in _ (by omega)
                have w3' : IntKind.i64.wrap (et : Int) = (et : Int) := IntWalk.i64_in _ (by omega)
                rw [hA]
                clear he hem hA hc hpf ipf hpt ipt gp3
                cases pf with
                | false =>
                  clear himp
                  go_wp2_with fail
                  go_roundw
                  case rel => exact ⟨j + 1, by omega, by go_num, HB2.out⟩
                  case measure => simp [intOf]; omega
                | true =>
                  obtain rfl := himp rfl
                  clear himp
                  go_wp2_with fail
                  go_roundw
                  case rel => exact ⟨j + 1, by omega, by go_num, HB2.out⟩
                  case measure => simp [intOf]; omega
              · obtain rfl : j = M := by omega
                go_wp2_with fail
                refine (known_any _).mono ?_
                rintro e w5 ⟨rfl, hb5⟩
                go_wp2_with fail
                go_ret
                exact ⟨rfl, HB3.out.trans ((HB2.out.trans (hb5.mono HB2.out.size)).mono HB3.out.size)⟩
end Go.Proofs.Yteigepblocbnlaa.Gp
