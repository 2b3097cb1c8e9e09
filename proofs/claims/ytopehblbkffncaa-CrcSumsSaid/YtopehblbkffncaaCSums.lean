/-
  The law CrcSums, walked.
-/
import Derived.Test.YtopehblbkffncaaCLaw
import Derived.Deep.RegionHeld3
import Derived.BigQuiet
namespace Go.Proofs.Ytopehblbkffncaa
open Go Go.RowKit Go.Shelf Go.Proofs

set_option maxHeartbeats 8000000 in
theorem csums_any (hM : MoreOk) (hS : SumOk) (hT : StepOk) (n : Nat) (hn : n < 2 ^ 32) (l : List BX) (A : Option Addr) (c : Nat) (w : World) (h : BRowAt w A c l) :
    Calls Try.prog 3 #[.int .u32 (n : Int), .slice A l.length c] w fun e w' => e = .returned (.bool true) ∧ Below w.heap.size w w' := by
  have hcap : l.length ≤ maxLen := Nat.le_trans h.cap h.capm
  unfold maxLen at hcap
  have HR := Lib.hid h; clear h
  have HM := Lib.hid hM
  have HS := Lib.hid hS
  have HT := Lib.hid hT
  clear hM hS hT
  go_enter Try.func3, Try.ntmps3
  go_wp2_with fail
  go_loopw [5, 6] (fun v i wr => ∃ (q : Int) (k : Nat), k ≤ l.length ∧ v = .int .i64 q ∧ i = .int .i64 k ∧ Below w.heap.size w wr) (fun _ i _ => l.length - (intOf i).toNat)
  case atStart => exact ⟨0, 0, Nat.zero_le _, rfl, rfl, Below.refl _ _⟩
  case round =>
    obtain ⟨q, k, hk, rfl, rfl, hbr⟩ := hrel
    by_cases h1 : k < l.length
    · obtain ⟨x, hx⟩ : ∃ x, l[k]? = some x := ⟨_, List.getElem?_eq_getElem h1⟩
      obtain ⟨g, o, hA, hr⟩ := (HR.out.below hbr).row (by omega)
      subst hA
      have c1 := hr k x hx
      have k1 : (k : Int) < (l.length : Int) := by omega
      clear hr hx
      go_wp2_with fail
      go_roundw
      case rel => exact ⟨_, k + 1, by omega, rfl, by go_num, hbr⟩
      case measure => simp [intOf]; omega
    · obtain rfl : k = l.length := by omega
      by_cases hq : (2000 : Int) < q
      · have HK := Lib.hid (ckown_any HS.out HT.out wr)
        go_wp2_with fail
        refine HK.out.mono ?_
        rintro e wz ⟨rfl, hz⟩
        have HZ := Lib.hid (hbr.trans (hz.mono hbr.size)); clear hz
        go_wp2_with fail
        go_ret
        exact ⟨rfl, HZ.out⟩
      · go_wp2_with fail
        clear hq
        go_loopw [7] (fun i wq => ∃ (k : Nat), k ≤ l.length ∧ i = .int .i64 k ∧ Below w.heap.size w wq) (fun i _ => l.length - (intOf i).toNat)
        case atStart => exact ⟨0, Nat.zero_le _, rfl, hbr⟩
        case round =>
          clear hbr
          obtain ⟨k, hk, rfl, hbr⟩ := hrel
          by_cases h2 : k < l.length
          · obtain ⟨x, hx⟩ : ∃ x, l[k]? = some x := ⟨_, List.getElem?_eq_getElem h2⟩
            have hrd := (HR.out.below hbr)
            obtain ⟨g, o, hA, hr⟩ := hrd.row (by omega)
            subst hA
            have c1 := hr k x hx
            have hmem := List.mem_of_getElem? hx
            have hcx := (hrd.caps x hmem).2.2
            unfold reachBytes at hcx
            have hbx := hrd.bytes x hmem
            have gl : g < wr.heap.size := World.block_lt_of_cell? wr (a := ⟨g, o + k, none⟩) c1
            have k1 : (k : Int) < (l.length : Int) := by omega
            have wk : IntKind.i64.wrap (k : Int) = (k : Int) := IntWalk.i64_in _ (by omega)
            have H1 := Lib.hid (fun (W : World) (hb : Below wr.heap.size wr W) => HM.out n hn x.b x.A x.c W (hbx.below hb) (by omega))
            have H2 := Lib.hid (fun (W : World) (hb : Below wr.heap.size wr W) => refmore_any n hn x.b x.A x.c W (hbx.below hb) (by omega))
            generalize moreN n x.b = M at *
            clear hr hx hrd hmem hcx hbx
            go_wp2_with fail
            refine wp_region_held_drew (S := (fun w' => w'.cell? ⟨g, o + k, none⟩ = some (.slice x.A x.b.length x.c) ∧ Below wr.heap.size wr w')) (by kernel_rfl) ⟨c1, (Below.refl _ wr).drew⟩ (fun hHeld => ?_)
            refine wpAnyH_take (i := 0) (v := ?vm0) rfl (by kernel_rfl) (by kernel_rfl) (by kernel_rfl) (fun _ _ _ h => h) (Or.inl ⟨by rfl, ?ym0⟩) (by assumption) ?rm0
            case ym0 =>
              intro w hSw
              (try dsimp only at hSw)
              go_simp
              first | done | with_reducible rfl
            try simp only [Act.put, List.getElem_toArray, List.getElem_cons_zero, List.setIfInBounds_toArray, List.set_cons_zero, List.set_cons_succ]
            refine wpAnyH_take (i := 1) (v := ?vm1) rfl (by kernel_rfl) (by kernel_rfl) (by kernel_rfl) (fun _ _ _ h => h) (Or.inl ⟨by rfl, ?ym1⟩) (by assumption) ?rm1
            case ym1 =>
              intro w hSw
              (try dsimp only at hSw)
              go_simp
              first | done | with_reducible rfl
            try simp only [Act.put, List.getElem_toArray, List.getElem_cons_zero, List.getElem_cons_succ, List.setIfInBounds_toArray, List.set_cons_zero, List.set_cons_succ]
            refine wpAnyH_take (i := 2) (v := ?vm2) rfl (by kernel_rfl) (by kernel_rfl) (by kernel_rfl) (fun _ _ _ h => h) (Or.inl ⟨by rfl, ?ym2⟩) (by assumption) ?rm2
            case ym2 =>
              intro w hSw
              (try dsimp only at hSw)
              go_simp
              first | done | with_reducible rfl
            try simp only [Act.put, List.getElem_toArray, List.getElem_cons_zero, List.getElem_cons_succ, List.setIfInBounds_toArray, List.set_cons_zero, List.set_cons_succ]
            refine wpAnyH_take (i := 3) (v := ?vm3) rfl (by kernel_rfl) (by kernel_rfl) (by kernel_rfl) (fun _ _ _ h => h) (Or.inl ⟨by rfl, ?ym3⟩) (by assumption) ?rm3
            case ym3 =>
              intro w hSw
              (try dsimp only at hSw)
              go_simp
              first | done | with_reducible rfl
            try simp only [Act.put, List.getElem_toArray, List.getElem_cons_zero, List.getElem_cons_succ, List.setIfInBounds_toArray, List.set_cons_zero, List.set_cons_succ]
            refine wpAnyH_take (i := 4) (v := ?vm4) rfl (by kernel_rfl) (by kernel_rfl) (by kernel_rfl) (fun _ _ _ h => h) (Or.inl ⟨by rfl, ?ym4⟩) (by assumption) ?rm4
            case ym4 =>
              intro w hSw
              (try dsimp only at hSw)
              go_simp
              first | done | with_reducible rfl
            try simp only [Act.put, List.getElem_toArray, List.getElem_cons_zero, List.getElem_cons_succ, List.setIfInBounds_toArray, List.set_cons_zero, List.set_cons_succ]
            refine wpAnyH_take (i := 6) (v := ?vm6) rfl (by kernel_rfl) (by kernel_rfl) (by kernel_rfl) (fun _ _ _ h => h) (Or.inl ⟨by rfl, ?ym6⟩) (by assumption) ?rm6
            case ym6 =>
              intro w hSw
              (try dsimp only at hSw)
              go_simp
              first | done | with_reducible rfl
            try simp only [Act.put, List.getElem_toArray, List.getElem_cons_zero, List.getElem_cons_succ, List.setIfInBounds_toArray, List.set_cons_zero, List.set_cons_succ]
            refine wpAnyH_take (i := 7) (v := ?vm7) rfl (by kernel_rfl) (by kernel_rfl) (by kernel_rfl) (fun _ _ _ h => h) (Or.inl ⟨by rfl, ?ym7⟩) (by assumption) ?rm7
            case ym7 =>
              intro w hSw
              (try dsimp only at hSw)
              go_simp
              first | done | with_reducible rfl
            try simp only [Act.put, List.getElem_toArray, List.getElem_cons_zero, List.getElem_cons_succ, List.setIfInBounds_toArray, List.set_cons_zero, List.set_cons_succ]
            refine wpAnyH_take (i := 8) (v := ?vm8) rfl (by kernel_rfl) (by kernel_rfl) (by kernel_rfl) (fun _ _ _ h => h) (Or.inl ⟨by rfl, ?ym8⟩) (by assumption) ?rm8
            case ym8 =>
              intro w hSw
              (try dsimp only at hSw)
              go_simp
              first | done | with_reducible rfl
            try simp only [Act.put, List.getElem_toArray, List.getElem_cons_zero, List.getElem_cons_succ, List.setIfInBounds_toArray, List.set_cons_zero, List.set_cons_succ]
            refine wpAnyH_take (i := 9) (v := ?vm9) rfl (by kernel_rfl) (by kernel_rfl) (by kernel_rfl) (fun _ _ _ h => h) (Or.inl ⟨by rfl, ?ym9⟩) (by assumption) ?rm9
            case ym9 =>
              intro w hSw
              (try dsimp only at hSw)
              go_simp
              first | done | with_reducible rfl
            try simp only [Act.put, List.getElem_toArray, List.getElem_cons_zero, List.getElem_cons_succ, List.setIfInBounds_toArray, List.set_cons_zero, List.set_cons_succ]
            refine wpAnyH_take (i := 10) (v := ?vm10) rfl (by kernel_rfl) (by kernel_rfl) (by kernel_rfl) (fun _ _ _ h => h) (Or.inl ⟨by rfl, ?ym10⟩) (by assumption) ?rm10
            case ym10 =>
              intro w hSw
              (try dsimp only at hSw)
              go_simp
              first | done | with_reducible rfl
            try simp only [Act.put, List.getElem_toArray, List.getElem_cons_zero, List.getElem_cons_succ, List.setIfInBounds_toArray, List.set_cons_zero, List.set_cons_succ]
            refine wpAnyH_ready (rs := [5]) (by kernel_rfl) (by simp) ?_
            refine AllReadyH.cons rfl (fun K hK => ?_) AllReadyH.nil
            go_simp
            refine (H1.out _ ((Below.refl _ wr).drew)).mono ?_
            rintro e w2 ⟨rfl, hq2⟩
            have hb2 : Below wr.heap.size wr w2 := ((Below.refl _ wr).drew).trans hq2
            go_wp2_with fail
            refine hK.out _ _ ⟨(hb2.cell (p := ⟨g, o + k, none⟩) gl).trans c1, hb2⟩ (fun hHeld => ?_)
            clear hK K
            try simp only [Act.put, List.getElem_toArray, List.getElem_cons_zero, List.getElem_cons_succ, List.setIfInBounds_toArray, List.set_cons_zero, List.set_cons_succ]
            refine wpAnyH_ready (rs := [11]) (by kernel_rfl) (by simp) ?_
            refine AllReadyH.cons rfl (fun K hK => ?_) AllReadyH.nil
            go_simp
            refine (H2.out _ hb2).mono ?_
            rintro e w3 ⟨rfl, hq3⟩
            have hb3 : Below wr.heap.size wr w3 := hb2.trans (hq3.mono hb2.size)
            go_wp2_with fail
            refine hK.out _ _ ⟨(hb3.cell (p := ⟨g, o + k, none⟩) gl).trans c1, hb3⟩ (fun hHeld => ?_)
            clear hK K
            try simp only [Act.put, List.getElem_toArray, List.getElem_cons_zero, List.getElem_cons_succ, List.setIfInBounds_toArray, List.set_cons_zero, List.set_cons_succ]
            refine wpAnyH_take (i := 12) (v := ?vm12) rfl (by kernel_rfl) (by kernel_rfl) (by kernel_rfl) (fun _ _ _ h => h) (Or.inl ⟨by rfl, ?ym12⟩) (by assumption) ?rm12
            case ym12 =>
              intro w hSw
              (try dsimp only at hSw)
              go_simp
              first | done | with_reducible rfl
            try simp only [Act.put, List.getElem_toArray, List.getElem_cons_zero, List.getElem_cons_succ, List.setIfInBounds_toArray, List.set_cons_zero, List.set_cons_succ]
            refine wpAnyH_done (by kernel_rfl) ?_ _
            go_wp2_with fail
            go_roundw
            case rel => exact ⟨k + 1, by omega, by go_num, hbr.trans (hb3.mono hbr.size)⟩
            case measure => simp [intOf]; omega
          · obtain rfl : k = l.length := by omega
            have H1 := Lib.hid (fun (W : World) (hb : Below w.heap.size w W) => HS.out l A c W (HR.out.below hb))
            have H2 := Lib.hid (fun (W : World) (hb : Below w.heap.size w W) => refsum_any l A c W (HR.out.below hb))
            have H3 := Lib.hid (fun (W : World) => HT.out n hn W)
            have H4 := Lib.hid (fun (W : World) => refstep_any n hn W)
            generalize sumN (l.map BX.b) = M at *
            generalize halfN n = K at *
            have H1 := Lib.hid (H1.out wr hbr)
            go_wp2_with fail
            refine H1.out.mono ?_
            rintro e w1 ⟨rfl, hq1⟩
            have hb1 := hbr.trans (hq1.mono hbr.size)
            have H2 := Lib.hid (H2.out w1 hb1)
            go_wp2_with fail
            refine H2.out.mono ?_
            rintro e w2 ⟨rfl, hq2⟩
            have hb2 := hb1.trans (hq2.mono hb1.size)
            have H3 := Lib.hid (H3.out w2)
            go_wp2_with fail
            refine H3.out.mono ?_
            rintro e w3 ⟨rfl, hq3⟩
            have hb3 := hb2.trans (hq3.mono hb2.size)
            have H4 := Lib.hid (H4.out w3)
            go_wp2_with fail
            refine H4.out.mono ?_
            rintro e w4 ⟨rfl, hw4⟩
            have hw4 := hw4.symm
            subst hw4
            have HK := Lib.hid (ckown_any HS.out HT.out w3)
            go_wp2_with fail
            refine HK.out.mono ?_
            rintro e wz ⟨rfl, hz⟩
            have HZ := Lib.hid (hb3.trans (hz.mono hb3.size)); clear hz
            go_wp2_with fail
            go_ret
            exact ⟨rfl, HZ.out⟩
end Go.Proofs.Ytopehblbkffncaa
