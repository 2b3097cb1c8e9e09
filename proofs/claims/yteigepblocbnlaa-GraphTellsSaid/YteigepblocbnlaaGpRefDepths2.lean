/-
  The contract of the document's own Depths, where it answers.
-/
import Derived.Test.YteigepblocbnlaaGpRefDepths
import Derived.BigQuiet
namespace Go.Proofs.Yteigepblocbnlaa.Gp
open Go Go.RowKit Go.Shelf Go.Proofs
attribute [local go_sem] Oper.semAt_some

set_option maxRecDepth 100000 in
set_option maxHeartbeats 16000000 in
theorem refdepths_any (N : Nat) (A : Option Addr) (c : Nat) (m : List EN) (w : World) (hl : EdgesAt w A (castE m)) (hm2 : m.length ≤ 100000) (hN : N ≤ 2000) (hm : ∀ e ∈ m, e.1 < N ∧ e.2 < N) (hrt : rightB N (castE m) = true) :
    Calls Try.prog 21 #[.int .i64 N, .slice A m.length c] w fun e w' => ∃ A' c', e = .returned (.slice A' N c') ∧ OI w.heap.size w' (.slice A' N c') (DT N m) ∧ Below w.heap.size w w' := by
  have hrr := refright_any N A c (castE m) w hl (by rw [castE_length]; omega)
  rw [hrt, castE_length] at hrr
  have HRR := Lib.hid hrr
  have HRI := Lib.hid (refrings_any N A c m w hl hm2 hN hm hrt)
  obtain ⟨R, hR, hRT⟩ := RT_least hm
  obtain ⟨D, hD, hDT, hDB⟩ := DT_bound hm
  have hLg : ∀ x, x < N → (RT N m)[x]? = some (R x) := fun x hx => by rw [hRT]; simp [hx]
  obtain ⟨T, hT⟩ : ∃ T, DT N m = T := ⟨_, rfl⟩
  have hTl : T.length = N := by rw [← hT, hDT]; simp
  have hTg : ∀ x, x < N → T[x]? = some (D x) := fun x hx => by rw [← hT, hDT]; simp [hx]
  obtain ⟨L, hL⟩ : ∃ L, RT N m = L := ⟨_, rfl⟩
  have hLl : L.length = N := by rw [← hL]; exact RT_length N m
  rw [hL] at hLg HRI
  obtain ⟨M, hM⟩ : ∃ M, m.length = M := ⟨_, rfl⟩
  rw [hM] at HRR HRI hm2 ⊢
  rw [hT]
  have HL := Lib.hid hl
  have HM := Lib.hid hM
  have HMM := Lib.hid hm
  have HR := Lib.hid hR
  have HD := Lib.hid hD
  have HDB := Lib.hid hDB
  have HLG := Lib.hid hLg
  have HLL := Lib.hid hLl
  have HTL := Lib.hid hTl
  have HTG := Lib.hid hTg
  have HM2 := Lib.hid hm2
  clear hrr hM hm hrt hm2 hl hR hRT hL hLl hLg hD hDT hDB hT hTl hTg
  go_enter Try.func21, Try.ntmps21
  go_wp2_with fail
  refine HRR.out.mono ?_
  rintro e w1 ⟨rfl, hw1⟩
  have hw1 := hw1.symm; subst hw1
  go_wp2_with fail
  refine HRI.out.mono ?_
  rintro e w2 ⟨A2, c2, rfl, hO2, hb2⟩
  have hmk := make_ints w2 N (by omega)
  have hI2 : IntsAt w2 A2 L := by have h := hO2; have hq : N = L.length := by rw [HLL.out]
                                  rw [hq] at h; exact h.slice.2.1
  have HI2 := Lib.hid hI2
  obtain ⟨w3, hw3⟩ : ∃ w3, w2.alloc (.cells (valsI (List.replicate N 0)).toArray 3) = w3 := ⟨_, rfl⟩
  have hx3 : w3.heap[w2.heap.size]? = some (.cells (valsI (List.replicate N 0)).toArray 3 (0, 0)) := by rw [← hw3]; exact World.alloc_heap_new w2 _
  have hb3 : Below w2.heap.size w2 w3 := by rw [← hw3]; exact (Below.refl _ _).alloc (Nat.le_refl _) _
  obtain ⟨g, hg⟩ : ∃ g, w2.heap.size = g := ⟨_, rfl⟩
  have hgw : w.heap.size ≤ g := by rw [← hg]; exact hb2.size
  rw [hw3, hg] at hmk
  rw [hg] at hx3
  have HX3 := Lib.hid hx3
  have HB3 := Lib.hid hb3
  have HB2 := Lib.hid hb2
  have HG := Lib.hid hg
  have HGW := Lib.hid hgw
  have hso : Dk N D (List.replicate N 0) := ⟨by simp, fun x _ => by unfold dn; rw [List.getD_eq_getElem?_getD, List.getElem?_replicate]; split <;> simp⟩
  have HSO := Lib.hid hso
  clear hO2 hb2 hI2 hx3 hb3 hg hgw hso hw3
  go_wp2_with fail
  clear hmk
  go_loopg [7] (2 * pot D (List.replicate N 0) N + 1) (fun gk s wr => ∃ (d : List Nat) (more : Bool), s = .bool more ∧ Hid (2 * pot D d N + (if more then 1 else 0) = gk) ∧ Hid (Dk N D d ∧ (more = false → ∀ x, x < N → dn d (R x) = D x)) ∧ Hid (wr.heap[g]? = some (.cells (valsI d).toArray 3 (0, 0))) ∧ Hid (Below g w2 wr))
  case atStart => exact ⟨_, true, rfl, rfl, ⟨HSO.out, fun h => by cases h⟩, HX3.out, by rw [← HG.out]; exact HB3.out⟩
  case round =>
    obtain ⟨d, more, rfl, HGK, HO, HX, HB⟩ := hrel
    cases more with
    | false =>
      have hfin := HO.out.2 (by first | rfl | trivial)
      have HFIN := Lib.hid hfin
      have hdl := HO.out.1.1
      have HDL := Lib.hid hdl
      obtain ⟨B3, hB3⟩ : ∃ B3, wr.heap.size = B3 := ⟨_, rfl⟩
      have hB3g : g < B3 := by rw [← hB3]; exact (Array.getElem?_eq_some_iff.1 HX.out).1
      have hB3w : w.heap.size ≤ B3 := by have := HGW.out; omega
      have HB3S := Lib.hid hB3
      have hbw : Below w.heap.size w wr := HB2.out.trans (HB.out.mono HGW.out)
      have hIr : IntsAt wr A2 L := HI2.out.below (by rw [HG.out]; exact HB.out)
      have HIR := Lib.hid hIr
      have HBW := Lib.hid hbw
      clear hfin hdl hB3 hbw hIr
      go_wp2_with fail
      go_loopw [11, 12] (fun s y wq => ∃ (k q : Nat) (A' : Option Addr) (c' : Nat), k ≤ N ∧ s = .slice A' q c' ∧ y = .int .i64 k ∧ Hid (q = k) ∧ Hid (OI B3 wq (.slice A' q c') (T.take k)) ∧ Hid (Below B3 wr wq)) (fun _ y _ => N - (intOf y).toNat)
      case atStart => exact ⟨0, 0, none, 0, Nat.zero_le _, rfl, rfl, rfl, OI.nil _ _, Below.refl _ _⟩
      case round =>
        obtain ⟨k, q, A', c', hk, rfl, rfl, HQ, HO5, HB5⟩ := hrel
        by_cases h1 : k < N
        · have hsz : B3 ≤ wr.heap.size := by have := HB5.out.size; rw [HB3S.out] at this; exact this
          obtain ⟨gr, o2, hA2, hc2⟩ := (HIR.out.below (by rw [HB3S.out]; exact HB5.out)) (by rw [HLL.out]; omega)
          have d3 := hc2 k _ (HLG.out k h1)
          obtain ⟨a1, ha1⟩ : ∃ a1, R k = a1 := ⟨_, rfl⟩
          rw [ha1] at d3
          have l1 : a1 < N := by rw [← ha1]; exact (HR.out k h1).1.1.lt.2
          obtain ⟨x1, hx1⟩ : ∃ x1, D k = x1 := ⟨_, rfl⟩
          have hg5 : wr.heap[g]? = some (.cells (valsI d).toArray 3 (0, 0)) := (HB5.out.block g hB3g).trans HX.out
          have c1 : wr.cell? ⟨g, a1, none⟩ = some (.int .i64 x1) := (cell_of_row _ _ _ _ _ _ hg5).trans (by rw [List.getElem?_toArray]; exact valsI_get (by rw [dn_get (by have := HDL.out; omega), ← ha1, HFIN.out k h1, hx1]))
          have q1 : (k : Int) < (N : Int) := by omega
          have q4 : (a1 : Int) < (N : Int) := by omega
          have wk : IntKind.i64.wrap (k : Int) = (k : Int) := IntWalk.i64_in _ (by omega)
          have wk1 : IntKind.i64.wrap ((k : Int) + 1) = (k : Int) + 1 := IntWalk.i64_in _ (by omega)
          have e2 : T.take (k + 1) = T.take k ++ [x1] := by rw [List.take_add_one, HTG.out k h1, hx1]; rfl
          have e3 : (T.take k).length = q := by rw [List.length_take, HTL.out, HQ.out]; omega
          have E2 := Lib.hid e2
          have E3 := Lib.hid e3
          have HSZ := Lib.hid hsz
          unfold vI at d3
          rw [hA2]
          clear e2 e3 ha1 hx1 hc2 hA2 hg5 hsz
          go_wp2_with (at_builtin; go_loud (refine wpList_appI (l := T.take k) (base := B3) (x := x1) (A := A') (c := c') rfl _ _ rfl (by rw [E3.out]; first | done | rfl) (by rw [E3.out]; exact HO5.out.below ((Below.refl _ wr).alloc (Nat.le_refl _) _)) rfl (World.alloc_heap_new _ _) (by rw [E3.out, HQ.out]; omega) (by rw [World.size_alloc]; have := HSZ.out; omega) _ rfl ?_; intro g8 c8 w8 hown8 hgr8 _; have HOW := Lib.hid hown8; have HLOW := Lib.hid (OI.low (HO5.out.below ((Below.refl _ wr).alloc (Nat.le_refl _) (.cells #[vI x1] 3))) (HB5.out.alloc HSZ.out _) (by rw [own_blk]; exact hgr8) (Nat.le_refl _) (by rw [World.size_alloc]; have := HSZ.out; omega)); clear hown8 hgr8))
          go_roundw
          case rel => exact ⟨k + 1, _, some ⟨g8, 0, none⟩, c8, by omega, rfl, by go_num, by have := HTL.out; show min k T.length + 1 = k + 1; omega, by rw [E2.out]; have h := HOW.out; rw [List.length_append, List.length_take] at h; exact h, HLOW.out⟩
          case measure => simp [intOf]; omega
        · obtain rfl : k = N := by omega
          have hO2 := HO5.out
          rw [List.take_of_length_le (by rw [HTL.out]; exact Nat.le_refl _)] at hO2
          have hq := HQ.out
          subst hq
          have HO6 := Lib.hid hO2
          clear hO2
          go_wp2_with fail
          go_ret
          exact ⟨_, _, rfl, HO6.out.mono hB3w, HBW.out.trans (HB5.out.mono hB3w)⟩
    | true =>
      go_wp2_with fail
      go_loopw [7, 8] (fun s y wr => ∃ (j : Nat) (more : Bool) (b : List Nat), j ≤ M ∧ s = .bool more ∧ y = .int .i64 j ∧ Hid (InnD N m R D d b more j) ∧ Hid (wr.heap[g]? = some (.cells (valsI b).toArray 3 (0, 0))) ∧ Hid (Below g w2 wr)) (fun _ y _ => M - (intOf y).toNat)
      case atStart => exact ⟨0, false, d, Nat.zero_le _, rfl, rfl, InnD.start HO.out.1, HX.out, HB.out⟩
      case round =>
        obtain ⟨j, more, b, hj, rfl, rfl, HI, HX5, HB5⟩ := hrel
        by_cases h1 : j < M
        · obtain ⟨⟨u, v⟩, he⟩ : ∃ e, m[j]? = some e := ⟨_, List.getElem?_eq_getElem (by have := HM.out; omega)⟩
          have hbw : Below w.heap.size w wr := HB2.out.trans (HB5.out.mono HGW.out)
          obtain ⟨ge, o, hA, hc⟩ := (HL.out.below hbw) (by rw [castE_length]; have := HM.out; omega)
          obtain ⟨d1, d2⟩ := hc j _ (castE_get he)
          have huv := HMM.out _ (List.mem_of_getElem? he)
          have huN : u < N := huv.1
          have hvN : v < N := huv.2
          obtain ⟨gr, o2, hA2, hc2⟩ := (HI2.out.below (by rw [HG.out]; exact HB5.out)) (by rw [HLL.out]; omega)
          have d3 := hc2 u _ (HLG.out u huN)
          have d4 := hc2 v _ (HLG.out v hvN)
          obtain ⟨a1, ha1⟩ : ∃ a1, R u = a1 := ⟨_, rfl⟩
          obtain ⟨a2, ha2⟩ : ∃ a2, R v = a2 := ⟨_, rfl⟩
          rw [ha1] at d3
          rw [ha2] at d4
          have hbl := HI.out.ok.1
          have l1 : a1 < N := by rw [← ha1]; exact (HR.out u huN).1.1.lt.2
          have l2 : a2 < N := by rw [← ha2]; exact (HR.out v hvN).1.1.lt.2
          obtain ⟨x1, hx1⟩ : ∃ x1, dn b a1 = x1 := ⟨_, rfl⟩
          obtain ⟨x2, hx2⟩ : ∃ x2, dn b a2 = x2 := ⟨_, rfl⟩
          have c1 : wr.cell? ⟨g, a1, none⟩ = some (.int .i64 x1) := (cell_of_row _ _ _ _ _ _ HX5.out).trans (by rw [List.getElem?_toArray]; exact valsI_get (by rw [dn_get (by omega), hx1]))
          have c2 : wr.cell? ⟨g, a2, none⟩ = some (.int .i64 x2) := (cell_of_row _ _ _ _ _ _ HX5.out).trans (by rw [List.getElem?_toArray]; exact valsI_get (by rw [dn_get (by omega), hx2]))
          have f1 : wr.frozen? ⟨g, a1, none⟩ = false := frozen_of_row _ _ _ _ _ HX5.out
          have HE := Lib.hid he
          have HA1 := Lib.hid ha1
          have HA2 := Lib.hid ha2
          have HX1 := Lib.hid hx1
          have HX2 := Lib.hid hx2
          have hx2b : x2 ≤ 2000 := by have h5 := HI.out.ok.2 a2 l2; have h6 := HDB.out a2 l2; omega
          have q1 : (j : Int) < (M : Int) := by omega
          have q2 : (u : Int) < (N : Int) := by omega
          have q3 : (v : Int) < (N : Int) := by omega
          have q4 : (a1 : Int) < (N : Int) := by omega
          have q5 : (a2 : Int) < (N : Int) := by omega
          have wj : IntKind.i64.wrap (j : Int) = (j : Int) := IntWalk.i64_in _ (by have := HM2.out; omega)
          have wj1 : IntKind.i64.wrap ((j : Int) + 1) = (j : Int) + 1 := IntWalk.i64_in _ (by have := HM2.out; omega)
          have wu : IntKind.i64.wrap (u : Int) = (u : Int) := IntWalk.i64_in _ (by omega)
          have wv : IntKind.i64.wrap (v : Int) = (v : Int) := IntWalk.i64_in _ (by omega)
          have wa1 : IntKind.i64.wrap (a1 : Int) = (a1 : Int) := IntWalk.i64_in _ (by omega)
          have wa2 : IntKind.i64.wrap (a2 : Int) = (a2 : Int) := IntWalk.i64_in _ (by omega)
          have wx2 : IntKind.i64.wrap ((x2 : Int) + 1) = (x2 : Int) + 1 := IntWalk.i64_in _ (by omega)
          unfold vI at d3 d4
          rw [hA, hA2]
          clear he hA hc huv hbl ha1 ha2 hx1 hx2 hc2 hA2 hbw huN hvN
          by_cases e1 : a1 = a2
          · have t1 : decide (a1 = a2) = true := decide_eq_true e1
            go_wp2_with fail
            go_quiet (fail)
            go_wp2_with fail
            go_roundw
            case rel => exact ⟨j + 1, more, b, by omega, rfl, by go_num, HI.out.no HE.out (fun h => absurd (by show R u = R v; rw [HA1.out, HA2.out, e1]) h), HX5.out, belowQ HB5.out _⟩
            case measure => simp [intOf]; omega
          · have t1 : decide (a1 = a2) = false := decide_eq_false e1
            have t1c : ((a1 : Int) != (a2 : Int)) = true := by rw [bne_iff_ne]; omega
            by_cases e2 : x1 ≤ x2
            · have t2 : decide ((x1 : Int) ≤ (x2 : Int)) = true := decide_eq_true (by omega)
              go_wp2_with fail
              go_quiet (fail)
              go_wp2_with fail
              go_roundw
              case rel =>
                have hy := HI.out.yes HMM.out HR.out HD.out HE.out (by show R u ≠ R v; rw [HA1.out, HA2.out]; exact e1) (by show dn b (R u) ≤ dn b (R v); rw [HA1.out, HA2.out, HX1.out, HX2.out]; exact e2)
                have hy1 : InnD N m R D d (b.set a1 (x2 + 1)) true (j + 1) := by have h := hy.1; rw [show R (u, v).1 = a1 from HA1.out, show R (u, v).2 = a2 from HA2.out, HX2.out] at h; exact h
                refine ⟨j + 1, true, b.set a1 (x2 + 1), by omega, rfl, by go_num, hy1, ?_, (belowQ HB5.out _).setCell (Nat.le_refl _) _⟩
                rw [← valsI_set]; exact heap_setCell_same _ _ _ _ _ _ HX5.out
              case measure => simp [intOf]; omega
            · have t2 : decide ((x1 : Int) ≤ (x2 : Int)) = false := decide_eq_false (by omega)
              go_wp2_with fail
              go_quiet (fail)
              go_wp2_with fail
              go_roundw
              case rel => exact ⟨j + 1, more, b, by omega, rfl, by go_num, HI.out.no HE.out (fun _ => by show dn b (R v) < dn b (R u); rw [HA1.out, HA2.out, HX1.out, HX2.out]; omega), HX5.out, belowQ HB5.out _⟩
              case measure => simp [intOf]; omega
        · obtain rfl : j = M := by omega
          have hend : more = false → ∀ x, x < N → dn b (R x) = D x := fun h => by subst h; exact InnD.done HMM.out HR.out HD.out (by have := HI.out; rwa [← HM.out] at this)
          have hmeas : 2 * pot D b N + (if more then 1 else 0) < gk := by
            have h0 := HGK.out
            simp at h0
            cases more with
            | true => have := HI.out.fewer rfl; simp; omega
            | false => have := (HI.out.same rfl).1; rw [this]; simp; omega
          have HEND := Lib.hid hend
          have HME := Lib.hid hmeas
          clear hend hmeas
          go_wp2_with fail
          go_roundg (2 * pot D b N + (if more then 1 else 0))
          case measure => exact HME.out
          case rel => exact ⟨b, more, rfl, rfl, ⟨HI.out.ok, HEND.out⟩, HX5.out, HB5.out⟩
end Go.Proofs.Yteigepblocbnlaa.Gp
