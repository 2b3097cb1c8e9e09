/-
  The law GraphOrders. (gen_gplawo.py)
-/
import Derived.Test.YteigepblocbnlaaGpRefRight
namespace Go.Proofs.Yteigepblocbnlaa.Gp
open Go Go.RowKit Go.Shelf Go.Proofs
attribute [local go_sem] Oper.semAt_some

theorem DT_length {N : Nat} {m : List EN} (h : ∀ e ∈ m, e.1 < N ∧ e.2 < N) : (DT N m).length = N := by
  obtain ⟨D, _, e, _⟩ := DT_deep h
  rw [e]; simp
set_option maxRecDepth 100000 in
set_option maxHeartbeats 16000000 in
theorem graphorders_any (n : Int) (A : Option Addr) (c : Nat) (l : List EI) (f : Int) (w : World) (hl : EdgesAt w A l) :
    Calls Try.prog 10 #[.int .i64 n, .slice A l.length c, .int .i64 f] w fun e w' => e = .returned (.bool true) ∧ Below w.heap.size w w' := by
  have HS := Lib.hid (small_any n A l.length c w)
  cases hs : smallB n l.length with
  | false =>
    rw [hs] at HS
    clear hs
    go_enter Try.func10, Try.ntmps10
    go_wp2_with fail
    refine HS.out.mono ?_
    rintro e w1 ⟨rfl, hw1⟩
    have hw1 := hw1.symm; subst hw1
    go_wp2_with fail
    refine (known_any _).mono ?_
    rintro e w2 ⟨rfl, hb2⟩
    go_wp2_with fail
    go_ret
    exact ⟨rfl, hb2⟩
  | true =>
    rw [hs] at HS
    have hs2 := hs
    unfold smallB at hs2
    simp only [Bool.and_eq_true, decide_eq_true_eq] at hs2
    have HL := Lib.hid hl
    obtain ⟨M, hM⟩ : ∃ M, l.length = M := ⟨_, rfl⟩
    have HM := Lib.hid hM
    rw [hM] at hs2 HS ⊢
    have hM150 : M ≤ 150 := by omega
    have wM : IntKind.i64.wrap ((M : Int) - 1) = (M : Int) - 1 := IntWalk.i64_in _ (by omega)
    clear hs hM hl
    go_enter Try.func10, Try.ntmps10
    go_wp2_with fail
    refine HS.out.mono ?_
    rintro e w1 ⟨rfl, hw1⟩
    have hw1 := hw1.symm; subst hw1
    go_wp2_with fail
    clear wM
    go_loopw [7, 8] (fun s y wr => ∃ (k q : Nat) (A' : Option Addr) (c' : Nat), k ≤ M ∧ s = .slice A' q c' ∧ y = .int .i64 ((M : Int) - 1 - k) ∧ Hid (q = k) ∧ Hid (OE w.heap.size wr (.slice A' q c') (l.reverse.take k)) ∧ Hid (Below w.heap.size w wr)) (fun _ y _ => (intOf y + 1).toNat)
    case atStart => exact ⟨0, 0, none, 0, Nat.zero_le _, rfl, by go_num, rfl, OE.nil _ _, Below.refl _ _⟩
    case round =>
      obtain ⟨k, q, A', c', hk, rfl, rfl, HQ, HO, HB⟩ := hrel
      by_cases h1 : k < M
      · have e1 : (M : Int) - 1 - k = ((M - 1 - k : Nat) : Int) := by omega
        obtain ⟨⟨ef, et⟩, he⟩ : ∃ e, l[M - 1 - k]? = some e := ⟨_, List.getElem?_eq_getElem (by have := HM.out; omega)⟩
        obtain ⟨g, o, rfl, hc⟩ := (HL.out.below HB.out) (by have := HM.out; omega)
        obtain ⟨c1, c2⟩ := hc _ _ he
        have hrev : l.reverse[k]? = some (ef, et) := by rw [List.getElem?_reverse (by have := HM.out; omega), HM.out]; exact he
        have HRV := Lib.hid hrev
        have hlen : (l.reverse.take k).length = q := by rw [List.length_take, List.length_reverse, HM.out, HQ.out]; omega
        have HLN := Lib.hid hlen
        have q1 : ((M - 1 - k : Nat) : Int) < (M : Int) := by omega
        have q2 : (0 : Int) ≤ ((M - 1 - k : Nat) : Int) := by omega
        have q3 : ((M - 1 - k : Nat) : Int) - 1 = (M : Int) - 1 - ((k + 1 : Nat) : Int) := by omega
        have w1' : IntKind.i64.wrap ((M - 1 - k : Nat) : Int) = ((M - 1 - k : Nat) : Int) := IntWalk.i64_in _ (by omega)
        rw [e1]
        clear hc hrev hlen
        go_wp2_with (at_builtin; refine wpList_appE (e := (ef, et)) (l := l.reverse.take k) (base := w.heap.size) rfl _ _ rfl rfl (HO.out.below ((Below.refl _ wr).alloc (Nat.le_refl _) _)) rfl (World.alloc_heap_new _ _) (by rw [HLN.out, HQ.out]; omega) (by rw [World.size_alloc]; have := HB.out.size; omega) ?_; intro A8 c8 w8 hown8 hgr8; have HOW := Lib.hid hown8; have HLOW := Lib.hid (OE.low (HO.out.below ((Below.refl _ wr).alloc (Nat.le_refl _) (.cells #[.int .i64 ef, .int .i64 et] 35))) (HB.out.alloc HB.out.size _) hgr8 (Nat.le_refl _) (by rw [World.size_alloc]; have := HB.out.size; omega)); clear hown8 hgr8 c1 c2)
        go_roundw
        case rel =>
          have e2 : l.reverse.take (k + 1) = l.reverse.take k ++ [(ef, et)] := by rw [List.take_add_one, HRV.out]; rfl
          have e3 : (l.reverse.take (k + 1)).length = k + 1 := by rw [List.length_take, List.length_reverse, HM.out]; omega
          refine ⟨k + 1, (l.reverse.take (k + 1)).length, A8, c8, by omega, by rw [e2]; simp, by congr 1, e3, ?_, HLOW.out⟩
          rw [e2]; exact HOW.out
        case measure => simp only [intOf]; omega
      · obtain rfl : k = M := by omega
        have e1 : (k : Int) - 1 - k = -1 := by omega
        have hO2 := HO.out
        rw [List.take_of_length_le (by rw [List.length_reverse, HM.out]; exact Nat.le_refl _)] at hO2
        have hlenq : l.reverse.length = q := by rw [List.length_reverse, HM.out, HQ.out]
        obtain ⟨A2, c2, he0, hE2, _⟩ := hO2.form
        simp only [Value.slice.injEq] at he0
        obtain ⟨rfl, -, rfl⟩ := he0
        have HE2 := Lib.hid hE2
        have HLQ := Lib.hid hlenq
        rw [e1]
        clear hO2 hlenq hE2 e1
        cases hr : rightB n l with
        | false =>
          have hri := rings_bad n A c l wr (HL.out.below HB.out) (by rw [HM.out]; omega) hr
          have HR := Lib.hid (fun (w' : World) (h : EdgesAt w' A l) => right_any n A c l w' h (by rw [HM.out]; omega))
          have HDB := Lib.hid (fun (w' : World) (h : EdgesAt w' A l) => depths_bad n A c l w' h (by rw [HM.out]; omega) hr)
          have HRB := Lib.hid (fun (w' : World) (h : EdgesAt w' A l) => reach_bad n f A c l w' h (by rw [HM.out]; omega) (by rw [hr]; rfl))
          have HRR := Lib.hid (fun (w' : World) (h : EdgesAt w' A l) => refright_any n A c l w' h (by rw [HM.out]; omega))
          rw [HM.out] at hri HR HDB HRB HRR
          rw [hr] at HR HRR
          have HRI := Lib.hid hri
          clear hri hr
          go_wp2_with fail
          refine HRI.out.mono ?_
          rintro e w2 ⟨rfl, hb2⟩
          have h2 := (HL.out.below HB.out).below hb2
          have HH := Lib.hid h2
          have HB2 := Lib.hid (HB.out.trans (hb2.mono HB.out.size))
          clear h2 hb2
          go_wp2_with fail
          refine (HR.out _ HH.out).mono ?_
          rintro e w3 ⟨rfl, hb3⟩
          have h3 := HH.out.below hb3
          have HH3 := Lib.hid h3
          have HB3 := Lib.hid (HB2.out.trans (hb3.mono HB2.out.size))
          clear h3 hb3
          go_wp2_with fail
          refine (HDB.out _ HH3.out).mono ?_
          rintro e w4 ⟨rfl, hb4⟩
          have h4 := HH3.out.below hb4
          have HH4 := Lib.hid h4
          have HB4 := Lib.hid (HB3.out.trans (hb4.mono HB3.out.size))
          clear h4 hb4
          go_wp2_with fail
          refine (HRB.out _ HH4.out).mono ?_
          rintro e w5 ⟨rfl, hb5⟩
          have h5 := HH4.out.below hb5
          have HH5 := Lib.hid h5
          have HB5 := Lib.hid (HB4.out.trans (hb5.mono HB4.out.size))
          clear h5 hb5
          go_wp2_with fail
          refine (HRR.out _ HH5.out).mono ?_
          rintro e w6 ⟨rfl, hw6⟩
          have hw6 := hw6.symm; subst hw6
          go_wp2_with fail
          refine (known_any _).mono ?_
          rintro e w7 ⟨rfl, hb7⟩
          go_wp2_with fail
          go_ret
          exact ⟨rfl, HB5.out.trans (hb7.mono HB5.out.size)⟩
        | true =>
          obtain ⟨N, m, rfl, rfl, hN, hm⟩ := right_nats hr
          have hrev : (castE m).reverse = castE m.reverse := by unfold castE; rw [List.map_reverse]
          have hmr : ∀ e ∈ m.reverse, e.1 < N ∧ e.2 < N := fun e he => hm e (List.mem_reverse.1 he)
          have hmM : m.length = k := by have := HM.out; rwa [castE_length] at this
          have hmq : m.reverse.length = q := by have := HLQ.out; rwa [hrev, castE_length] at this
          have HR := Lib.hid (fun (w' : World) (h : EdgesAt w' A (castE m)) => right_any N A c (castE m) w' h (by rw [castE_length]; omega))
          rw [hr, castE_length, hmM] at HR
          have HRI := Lib.hid (fun (w' : World) (h : EdgesAt w' A (castE m)) => rings_any N A c m w' h (by omega) (by omega) hm hr)
          have HDE := Lib.hid (fun (w' : World) (h : EdgesAt w' A (castE m)) => depths_any N A c m w' h (by omega) (by omega) hm hr)
          rw [hmM] at HRI HDE
          have HRI2 := Lib.hid (fun (w' : World) (h : EdgesAt w' A' (castE m.reverse)) => rings_any N A' c' m.reverse w' h (by rw [List.length_reverse]; omega) (by omega) hmr (rightB_cast (by omega) hmr))
          have HDE2 := Lib.hid (fun (w' : World) (h : EdgesAt w' A' (castE m.reverse)) => depths_any N A' c' m.reverse w' h (by rw [List.length_reverse]; omega) (by omega) hmr (rightB_cast (by omega) hmr))
          rw [hmq] at HRI2 HDE2
          rw [hrev] at HE2
          have hmut : ∀ x y, Mut (adjT N m) N x y ↔ Mut (adjT N m.reverse) N x y := fun x y => ⟨fun h => ⟨Rch_sub hm hmr (fun e he => .inl (List.mem_reverse.2 he)) h.1, Rch_sub hm hmr (fun e he => .inl (List.mem_reverse.2 he)) h.2⟩, fun h => ⟨Rch_sub hmr hm (fun e he => .inl (List.mem_reverse.1 he)) h.1, Rch_sub hmr hm (fun e he => .inl (List.mem_reverse.1 he)) h.2⟩⟩
          have HRT := Lib.hid (RT_same hm hmr hmut)
          have HDT := Lib.hid (DT_same hm hmr hmut (fun x y _ _ _ => by rw [adj_iff hm, adj_iff hmr, List.mem_reverse]))
          clear hr hrev hmM hmq hmut
          go_wp2_with fail
          refine (HRI.out _ (HL.out.below HB.out)).mono ?_
          rintro e w2 ⟨g2, rfl, hg2, hb2⟩
          have h2 := (HL.out.below HB.out).below hb2
          have HH := Lib.hid h2
          have HHE := Lib.hid (HE2.out.below hb2)
          have HB2 := Lib.hid (HB.out.trans (hb2.mono HB.out.size))
          have HG2 := Lib.hid hg2
          clear h2 hb2 hg2
          go_wp2_with fail
          refine (HR.out _ HH.out).mono ?_
          rintro e w3 ⟨rfl, hb3⟩
          have h3 := HH.out.below hb3
          have HH3 := Lib.hid h3
          have HHE3 := Lib.hid (HHE.out.below hb3)
          have HB3 := Lib.hid (HB2.out.trans (hb3.mono HB2.out.size))
          have HG3 := Lib.hid ((hb3.block _ (Array.getElem?_eq_some_iff.1 HG2.out).1).trans HG2.out)
          clear h3 hb3
          go_wp2_with fail
          refine (HRI2.out _ HHE3.out).mono ?_
          rintro e w4 ⟨g4, rfl, hg4, hb4⟩
          have h4 := HH3.out.below hb4
          have HH4 := Lib.hid h4
          have HHE4 := Lib.hid (HHE3.out.below hb4)
          have HB4 := Lib.hid (HB3.out.trans (hb4.mono HB3.out.size))
          have hsm := sameints_any (RT N m) (RT N m.reverse) (some ⟨g2, 0, none⟩) (some ⟨g4, 0, none⟩) N N w4 ((IntsAt.block HG3.out).below hb4) (IntsAt.block hg4) (by rw [RT_length]; omega) (by rw [RT_length]; omega)
          rw [RT_length, RT_length, decide_eq_true HRT.out] at hsm
          have HSM := Lib.hid hsm
          clear h4 hb4 hg4 hsm
          go_wp2_with fail
          refine HSM.out.mono ?_
          rintro e w5 ⟨rfl, hb5⟩
          have HH5 := Lib.hid (HH4.out.below hb5)
          have HHE5 := Lib.hid (HHE4.out.below hb5)
          have HB5 := Lib.hid (HB4.out.trans (hb5.mono HB4.out.size))
          clear hb5
          go_wp2_with fail
          refine (HDE.out _ HH5.out).mono ?_
          rintro e w6 ⟨g6, rfl, hg6, hb6⟩
          have HHE6 := Lib.hid (HHE5.out.below hb6)
          have HB6 := Lib.hid (HB5.out.trans (hb6.mono HB5.out.size))
          have HG6 := Lib.hid hg6
          clear hb6 hg6
          go_wp2_with fail
          refine (HDE2.out _ HHE6.out).mono ?_
          rintro e w7 ⟨g7, rfl, hg7, hb7⟩
          have HB7 := Lib.hid (HB6.out.trans (hb7.mono HB6.out.size))
          have hsm := sameints_any (DT N m) (DT N m.reverse) (some ⟨g6, 0, none⟩) (some ⟨g7, 0, none⟩) N N w7 ((IntsAt.block HG6.out).below hb7) (IntsAt.block hg7) (by rw [DT_length hmr]; omega) (by rw [DT_length hm]; omega)
          rw [DT_length hm, DT_length hmr, decide_eq_true HDT.out] at hsm
          have HSM := Lib.hid hsm
          clear hb7 hg7 hsm
          go_wp2_with fail
          refine HSM.out.mono ?_
          rintro e w8 ⟨rfl, hb8⟩
          have HB8 := Lib.hid (HB7.out.trans (hb8.mono HB7.out.size))
          clear hb8
          go_wp2_with fail
          refine (known_any _).mono ?_
          rintro e w9 ⟨rfl, hb9⟩
          go_wp2_with fail
          go_ret
          exact ⟨rfl, HB8.out.trans (hb9.mono HB8.out.size)⟩
end Go.Proofs.Yteigepblocbnlaa.Gp
