/-
  The document's own: rules as a text.
-/
import Derived.Test.YthkbpophckjdnaaDoorRlRef1
import Derived.Test.YthkbpophckjdnaaDoorRlRefQ
import Derived.Deep.RegionHeld3
import Derived.BigQuiet
import Derived.Deep.Cut
namespace Go.Proofs.YthkbpophckjdnaaDoor
open Go Go.RowKit Go.Shelf Go.Proofs
attribute [local go_sem] Oper.semAt_some

theorem wpAnyH_stronger {P : Program} {md : Region.Mode} {ops : Array Oper} {Q : Exit → Act → World → Prop} {S S' : World → Prop} (hs : ∀ w, S' w → S w) :
    ∀ (fuel : Nat) (listed : Array Bool) (a : Act) (w : World), wpAnyH P md ops Q S' fuel listed a w → wpAnyH P md ops Q S fuel listed a w
  | 0, _, _, _, h => h
  | fuel + 1, _, _, _, h => ⟨h.1, fun i hi => wpOp_mono (fun a' w' h' => ⟨hs w' h'.1, wpAnyH_stronger hs fuel _ a' w' h'.2⟩) (h.2 i hi)⟩
theorem kind_nat {r : Ru} (h : rightU r = true) : ∃ kk : Nat, r.k = (kk : Int) ∧ 1 ≤ kk ∧ kk ≤ 5 := by
  obtain ⟨_, _, _, kk, hkk, h1, h5, _⟩ := right_kind h
  exact ⟨kk, hkk, h1, h5⟩
theorem textU_snoc {L : List RX} {k : Nat} {x : RX} (h : L[k]? = some x) : textU (rusX (L.take (k + 1))) = textU (rusX (L.take k)) ++ (bodyU x.ru ++ [10]) := by
  rw [← rusX_take, ← rusX_take]
  exact textU_next (by rw [rusX_getElem?, h]; rfl)

set_option maxRecDepth 100000 in
set_option maxHeartbeats 16000000 in
theorem rrefprint_any (L : List RX) (A : Option Addr) (c : Nat) (w : World) (h : RulesAt w A c L) (hl : L.length ≤ 60) (hs : ∀ x ∈ L, x.g.size ≤ 100000 ∧ x.o.size ≤ 100000 ∧ x.n.size ≤ 100000) :
    Calls Tryd.prog 23 #[.slice A L.length c] w fun e w' => e = .returned (.tuple #[.string (mkB (printU (rusX L)).2), .int .i64 (printU (rusX L)).1]) ∧ Below w.heap.size w w' := by
  have HT := Lib.hid h
  have HS := Lib.hid hs
  clear h hs
  go_enter Tryd.func23, Tryd.ntmps23
  go_wp2_with fail
  go_loopw [4, 5] (fun v4 v5 wr => ∃ (k : Nat) (s : ByteArray), k ≤ L.length ∧ v5 = .int .i64 k ∧ v4 = .string s ∧ Hid (s.data.toList = textU (rusX (L.take k))) ∧ Hid (∀ j x, j < k → L[j]? = some x → rightU x.ru = true) ∧ Hid ((textU (rusX (L.take k))).length ≤ 1000 * k) ∧ Below w.heap.size w wr) (fun _ v5 _ => L.length - (intOf v5).toNat)
  case atStart => exact ⟨0, ⟨#[]⟩, Nat.zero_le _, rfl, rfl, rfl, fun j x hj => absurd hj (Nat.not_lt_zero _), Nat.le_refl _, Below.refl _ _⟩
  case round =>
    obtain ⟨k, s, hk, rfl, rfl, HO, HR, HZ, hbr⟩ := hrel
    have HBR := Lib.hid hbr
    clear hbr
    by_cases h1 : k < L.length
    · obtain ⟨x, hx⟩ : ∃ x, L[k]? = some x := ⟨_, List.getElem?_eq_getElem h1⟩
      obtain ⟨g, o, hA, hr⟩ := HT.out.row (by omega)
      subst hA
      have CE := Lib.hid (fun (W : World) (hb : Below w.heap.size w W) => (hr.below hb) k x hx)
      have k1 : (k : Int) < (L.length : Int) := by omega
      obtain ⟨z1, z2, z3⟩ := HS.out x (List.mem_of_getElem? hx)
      have hsz : s.size ≤ 60000 := by rw [← rl_size, HO.out]; have := HZ.out; omega
      have HRT := Lib.hid (fun W => rright_any x W z1 z2 z3)
      cases hrt : rightU x.ru with
      | false =>
        rw [hrt] at HRT
        have hpr : printU (rusX L) = (2, []) := by
          unfold printU
          rw [if_neg]
          rw [List.all_eq_true]
          intro hall
          have := hall x.ru (List.mem_map.2 ⟨x, List.mem_of_getElem? hx, rfl⟩)
          rw [hrt] at this; cases this
        have HPR := Lib.hid hpr
        obtain ⟨d0, d1, d2, d3⟩ := CE.out wr HBR.out
        clear hpr hx hr hrt
        go_wp2_with fail
        refine (HRT.out wr).mono ?_
        rintro e w2 ⟨rfl, hb⟩
        have HB2 := Lib.hid (HBR.out.trans (hb.mono HBR.out.size))
        clear hb d0 d1 d2 d3
        go_wp2_with fail
        go_ret2
        exact ⟨by rw [HPR.out]; rfl, HB2.out⟩
      | true =>
        rw [hrt] at HRT
        have htn := textU_snoc hx
        have hln := lineU_le hrt
        have HRN : Hid (∀ j y, j < k + 1 → L[j]? = some y → rightU y.ru = true) := fun j y hj hy => by
          by_cases hjk : j < k
          · exact HR.out j y hjk hy
          · obtain rfl : j = k := by omega
            rw [hx] at hy; cases hy; exact hrt
        have HZN : Hid ((textU (rusX (L.take (k + 1)))).length ≤ 1000 * (k + 1)) := by
          show (textU (rusX (L.take (k + 1)))).length ≤ _
          rw [htn, List.length_append]
          have := HZ.out
          unfold lineU at hln
          omega
        obtain ⟨kk, hkk, hk1, hk5⟩ := kind_nat hrt
        have HTN := Lib.hid htn
        have HXL := Lib.hid hx
        clear htn hln hrt hx hr
        obtain ⟨xk, xg, xo, xn⟩ := x
        obtain rfl : xk = (kk : Int) := hkk
        simp only at z1 z2 z3
        obtain ⟨d0, d1, d2, d3⟩ := CE.out wr HBR.out
        go_wp2_with fail
        refine (HRT.out wr).mono ?_
        rintro e w2 ⟨rfl, hb⟩
        have HB2 := Lib.hid (HBR.out.trans (hb.mono HBR.out.size))
        clear hb d0 d1 d2 d3 HRT
        have kk6 : (kk : Int) < 6 := by omega
        obtain ⟨wd, hwd⟩ : ∃ wd, mkB (wordK kk) = wd := ⟨_, rfl⟩
        have hwz : wd.size ≤ 100 := by
          rw [← hwd, ← rl_size, mkB_data]
          match kk, hk1, hk5 with
          | 1, _, _ => decide
          | 2, _, _ => decide
          | 3, _, _ => decide
          | 4, _, _ => decide
          | 5, _, _ => decide
        have HWD := Lib.hid hwd
        clear hwd
        obtain ⟨T, hT⟩ : ∃ T, txtN kk = T := ⟨_, rfl⟩
        have HTX := Lib.hid hT
        clear hT
        obtain ⟨d0, d1, d2, d3⟩ := CE.out w2 HB2.out
        go_wp2_with fail
        refine (rtexts_any kk w2 (by omega)).mono ?_
        rintro e w3 ⟨rfl, hb⟩
        have HB3 := Lib.hid (HB2.out.trans (hb.mono HB2.out.size))
        clear hb d0 d1 d2 d3
        rw [HTX.out]
        go_upto_region 8 with fail
        obtain ⟨c0, c1, c2, c3⟩ := CE.out w3 HB3.out
        refine wp_region_held_drew (S := (fun w' => w'.cell? ⟨g, o + k * 4, none⟩ = some (.int .i64 (kk : Int)) ∧ w'.cell? ⟨g, o + k * 4 + 1, none⟩ = some (.string xg))) (by kernel_rfl) ⟨c0, c1⟩ (fun hHeld => ?_)
        refine wpAnyH_take (i := 0) (v := ?vp0) rfl (by kernel_rfl) (by kernel_rfl) (by kernel_rfl) (fun _ _ _ h => h) (Or.inl ⟨by rfl, ?yp0⟩) (by assumption) ?rp0
        case yp0 =>
          intro w hSw
          (try dsimp only at hSw)
          go_simp
          first | done | with_reducible rfl
        try simp only [Act.put, List.getElem_toArray, List.getElem_cons_zero, List.setIfInBounds_toArray, List.set_cons_zero, List.set_cons_succ]
        refine wpAnyH_take (i := 2) (v := ?vp2) rfl (by kernel_rfl) (by kernel_rfl) (by kernel_rfl) (fun _ _ _ h => h) (Or.inl ⟨by rfl, ?yp2⟩) (by assumption) ?rp2
        case yp2 =>
          intro w hSw
          (try dsimp only at hSw)
          go_simp
          first | done | with_reducible rfl
        try simp only [Act.put, List.getElem_toArray, List.getElem_cons_zero, List.getElem_cons_succ, List.setIfInBounds_toArray, List.set_cons_zero, List.set_cons_succ]
        refine wpAnyH_take (i := 3) (v := ?vp3) rfl (by kernel_rfl) (by kernel_rfl) (by kernel_rfl) (fun _ _ _ h => h) (Or.inl ⟨by rfl, ?yp3⟩) (by assumption) ?rp3
        case yp3 =>
          intro w hSw
          (try dsimp only at hSw)
          go_simp
          first | done | with_reducible rfl
        try simp only [Act.put, List.getElem_toArray, List.getElem_cons_zero, List.getElem_cons_succ, List.setIfInBounds_toArray, List.set_cons_zero, List.set_cons_succ]
        refine wpAnyH_take (i := 4) (v := ?vp4) rfl (by kernel_rfl) (by kernel_rfl) (by kernel_rfl) (fun _ _ _ h => h) (Or.inl ⟨by rfl, ?yp4⟩) (by assumption) ?rp4
        case yp4 =>
          intro w hSw
          (try dsimp only at hSw)
          go_simp
          first | done | with_reducible rfl
        try simp only [Act.put, List.getElem_toArray, List.getElem_cons_zero, List.getElem_cons_succ, List.setIfInBounds_toArray, List.set_cons_zero, List.set_cons_succ]
        refine wpAnyH_take (i := 5) (v := ?vp5) rfl (by kernel_rfl) (by kernel_rfl) (by kernel_rfl) (fun _ _ _ h => h) (Or.inl ⟨by rfl, ?yp5⟩) (by assumption) ?rp5
        case yp5 =>
          intro w hSw
          (try dsimp only at hSw)
          go_simp
          first | done | with_reducible rfl
        try simp only [Act.put, List.getElem_toArray, List.getElem_cons_zero, List.getElem_cons_succ, List.setIfInBounds_toArray, List.set_cons_zero, List.set_cons_succ]
        refine wpAnyH_take (i := 6) (v := ?vp6) rfl (by kernel_rfl) (by kernel_rfl) (by kernel_rfl) (fun _ _ _ h => h) (Or.inl ⟨by rfl, ?yp6⟩) (by assumption) ?rp6
        case yp6 =>
          intro w hSw
          (try dsimp only at hSw)
          go_simp
          first | done | with_reducible rfl
        try simp only [Act.put, List.getElem_toArray, List.getElem_cons_zero, List.getElem_cons_succ, List.setIfInBounds_toArray, List.set_cons_zero, List.set_cons_succ]
        refine wpAnyH_take (i := 11) (v := ?vp11) rfl (by kernel_rfl) (by kernel_rfl) (by kernel_rfl) (fun _ _ _ h => h) (Or.inl ⟨by rfl, ?yp11⟩) (by assumption) ?rp11
        case yp11 =>
          intro w hSw
          (try dsimp only at hSw)
          go_simp
          first | done | with_reducible rfl
        try simp only [Act.put, List.getElem_toArray, List.getElem_cons_zero, List.getElem_cons_succ, List.setIfInBounds_toArray, List.set_cons_zero, List.set_cons_succ]
        refine wpAnyH_take (i := 12) (v := ?vp12) rfl (by kernel_rfl) (by kernel_rfl) (by kernel_rfl) (fun _ _ _ h => h) (Or.inl ⟨by rfl, ?yp12⟩) (by assumption) ?rp12
        case yp12 =>
          intro w hSw
          (try dsimp only at hSw)
          go_simp
          first | done | with_reducible rfl
        try simp only [Act.put, List.getElem_toArray, List.getElem_cons_zero, List.getElem_cons_succ, List.setIfInBounds_toArray, List.set_cons_zero, List.set_cons_succ]
        refine wpAnyH_take (i := 13) (v := ?vp13) rfl (by kernel_rfl) (by kernel_rfl) (by kernel_rfl) (fun _ _ _ h => h) (Or.inl ⟨by rfl, ?yp13⟩) (by assumption) ?rp13
        case yp13 =>
          intro w hSw
          (try dsimp only at hSw)
          go_simp
          first | done | with_reducible rfl
        try simp only [Act.put, List.getElem_toArray, List.getElem_cons_zero, List.getElem_cons_succ, List.setIfInBounds_toArray, List.set_cons_zero, List.set_cons_succ]
        refine wpAnyH_take (i := 14) (v := ?vp14) rfl (by kernel_rfl) (by kernel_rfl) (by kernel_rfl) (fun _ _ _ h => h) (Or.inl ⟨by rfl, ?yp14⟩) (by assumption) ?rp14
        case yp14 =>
          intro w hSw
          (try dsimp only at hSw)
          go_simp
          first | done | with_reducible rfl
        try simp only [Act.put, List.getElem_toArray, List.getElem_cons_zero, List.getElem_cons_succ, List.setIfInBounds_toArray, List.set_cons_zero, List.set_cons_succ]
        refine wpAnyH_take (i := 15) (v := ?vp15) rfl (by kernel_rfl) (by kernel_rfl) (by kernel_rfl) (fun _ _ _ h => h) (Or.inl ⟨by rfl, ?yp15⟩) (by assumption) ?rp15
        case yp15 =>
          intro w hSw
          (try dsimp only at hSw)
          go_simp
          first | done | with_reducible rfl
        try simp only [Act.put, List.getElem_toArray, List.getElem_cons_zero, List.getElem_cons_succ, List.setIfInBounds_toArray, List.set_cons_zero, List.set_cons_succ]
        refine wpAnyH_ready (rs := [1]) (by kernel_rfl) (by simp) ?_
        refine AllReadyH.cons rfl (fun K hK => ?_) AllReadyH.nil
        go_simp
        refine (rwords_any _).mono ?_
        rintro e w4 ⟨rfl, hw4⟩
        have hb4 : Below w3.heap.size w3 w4 := by rw [hw4]; exact (Below.refl _ _).drew.alloc (Nat.le_refl _) _
        have HB4 := Lib.hid (HB3.out.trans (hb4.mono HB3.out.size))
        have e4 : w4.cell? ⟨w3.heap.size, kk, none⟩ = some (.string wd) := by rw [hw4, ← HWD.out]; exact word_at w3.drew _ (by omega)
        obtain ⟨f0, f1, f2, f3⟩ := CE.out w4 HB4.out
        refine hK.out _ _ ⟨f0, f1⟩ (fun hHeld => ?_)
        clear hK K
        try simp only [Act.put, List.getElem_toArray, List.getElem_cons_zero, List.getElem_cons_succ, List.setIfInBounds_toArray, List.set_cons_zero, List.set_cons_succ]
        have hHeld2 : (fun w' : World => w'.cell? ⟨g, o + k * 4, none⟩ = some (.int .i64 (kk : Int)) ∧ w'.cell? ⟨g, o + k * 4 + 1, none⟩ = some (.string xg) ∧ w'.cell? ⟨w3.heap.size, kk, none⟩ = some (.string wd)) w4 := ⟨f0, f1, e4⟩
        refine wpAnyH_stronger (S' := fun w' => w'.cell? ⟨g, o + k * 4, none⟩ = some (.int .i64 (kk : Int)) ∧ w'.cell? ⟨g, o + k * 4 + 1, none⟩ = some (.string xg) ∧ w'.cell? ⟨w3.heap.size, kk, none⟩ = some (.string wd)) (fun w h => ⟨h.1, h.2.1⟩) _ _ _ _ ?_
        clear hHeld
        refine wpAnyH_take (i := 7) (v := ?vq7) rfl (by kernel_rfl) (by kernel_rfl) (by kernel_rfl) (fun _ _ _ h => h) (Or.inl ⟨by rfl, ?yq7⟩) (by assumption) ?rq7
        case yq7 =>
          intro w hSw
          (try dsimp only at hSw)
          go_simp
          first | done | with_reducible rfl
        try simp only [Act.put, List.getElem_toArray, List.getElem_cons_zero, List.getElem_cons_succ, List.setIfInBounds_toArray, List.set_cons_zero, List.set_cons_succ]
        refine wpAnyH_take (i := 8) (v := ?vq8) rfl (by kernel_rfl) (by kernel_rfl) (by kernel_rfl) (fun _ _ _ h => h) (Or.inl ⟨by rfl, ?yq8⟩) (by assumption) ?rq8
        case yq8 =>
          intro w hSw
          (try dsimp only at hSw)
          go_simp
          first | done | with_reducible rfl
        try simp only [Act.put, List.getElem_toArray, List.getElem_cons_zero, List.getElem_cons_succ, List.setIfInBounds_toArray, List.set_cons_zero, List.set_cons_succ]
        refine wpAnyH_take (i := 9) (v := ?vq9) rfl (by kernel_rfl) (by kernel_rfl) (by kernel_rfl) (fun _ _ _ h => h) (Or.inl ⟨by rfl, ?yq9⟩) (by assumption) ?rq9
        case yq9 =>
          intro w hSw
          (try dsimp only at hSw)
          go_simp
          (try rw [if_neg (by (try simp only [ByteArray.size_append, show (ByteArray.mk #[32]).size = 1 from rfl]); omega)])
          first | done | with_reducible rfl
        try simp only [Act.put, List.getElem_toArray, List.getElem_cons_zero, List.getElem_cons_succ, List.setIfInBounds_toArray, List.set_cons_zero, List.set_cons_succ]
        refine wpAnyH_take (i := 10) (v := ?vq10) rfl (by kernel_rfl) (by kernel_rfl) (by kernel_rfl) (fun _ _ _ h => h) (Or.inl ⟨by rfl, ?yq10⟩) (by assumption) ?rq10
        case yq10 =>
          intro w hSw
          (try dsimp only at hSw)
          go_simp
          (try rw [if_neg (by (try simp only [ByteArray.size_append, show (ByteArray.mk #[32]).size = 1 from rfl]); omega)])
          first | done | with_reducible rfl
        try simp only [Act.put, List.getElem_toArray, List.getElem_cons_zero, List.getElem_cons_succ, List.setIfInBounds_toArray, List.set_cons_zero, List.set_cons_succ]
        refine wpAnyH_take (i := 16) (v := ?vq16) rfl (by kernel_rfl) (by kernel_rfl) (by kernel_rfl) (fun _ _ _ h => h) (Or.inl ⟨by rfl, ?yq16⟩) (by assumption) ?rq16
        case yq16 =>
          intro w hSw
          (try dsimp only at hSw)
          go_simp
          (try rw [if_neg (by (try simp only [ByteArray.size_append, show (ByteArray.mk #[32]).size = 1 from rfl]); omega)])
          first | done | with_reducible rfl
        try simp only [Act.put, List.getElem_toArray, List.getElem_cons_zero, List.getElem_cons_succ, List.setIfInBounds_toArray, List.set_cons_zero, List.set_cons_succ]
        refine wpAnyH_take (i := 17) (v := ?vq17) rfl (by kernel_rfl) (by kernel_rfl) (by kernel_rfl) (fun _ _ _ h => h) (Or.inl ⟨by rfl, ?yq17⟩) (by assumption) ?rq17
        case yq17 =>
          intro w hSw
          (try dsimp only at hSw)
          go_simp
          first | done | with_reducible rfl
        try simp only [Act.put, List.getElem_toArray, List.getElem_cons_zero, List.getElem_cons_succ, List.setIfInBounds_toArray, List.set_cons_zero, List.set_cons_succ]
        refine wpAnyH_done (by kernel_rfl) ?_ _
        clear hHeld2 hb4 hw4 e4
        obtain ⟨p, hp⟩ : ∃ p, s ++ wd ++ (ByteArray.mk #[32]) ++ xg = p := ⟨_, rfl⟩
        have hpd : p.data.toList = s.data.toList ++ (wordK (kk : Int) ++ 32 :: xg.data.toList) := by
          rw [← hp, app_data, app_data, app_data, ← HWD.out, mkB_data]
          simp
        have hpz : p.size ≤ 200000 := by
          rw [← hp, app_size, app_size, app_size]
          have : (ByteArray.mk #[32]).size = 1 := rfl
          omega
        have HP := Lib.hid hpd
        rw [hp]
        clear hp hpd hwz hHeld c0 c1 c2 c3
        obtain ⟨qo, hqo⟩ : ∃ q, mkB (quoteL xo.data.toList) = q := ⟨_, rfl⟩
        obtain ⟨qn, hqn⟩ : ∃ q, mkB (quoteL xn.data.toList) = q := ⟨_, rfl⟩
        have hqod : qo.data.toList = quoteL xo.data.toList := by rw [← hqo, mkB_data]
        have hqnd : qn.data.toList = quoteL xn.data.toList := by rw [← hqn, mkB_data]
        have hqoz : qo.size ≤ 300001 := by rw [← rl_size, hqod]; have := quoteL_len xo.data.toList; rw [rl_size] at this; omega
        have hqnz : qn.size ≤ 300001 := by rw [← rl_size, hqnd]; have := quoteL_len xn.data.toList; rw [rl_size] at this; omega
        have HQO := Lib.hid (fun W => refquoteR_any xo W (by omega))
        have HQN := Lib.hid (fun W => refquoteR_any xn W (by omega))
        rw [hqo] at HQO
        rw [hqn] at HQN
        have HOD := Lib.hid hqod
        have HND := Lib.hid hqnd
        clear hqo hqn hqod hqnd z1 z2 z3
        by_cases e5 : kk = 5
        · subst e5
          obtain rfl : T = 0 := HTX.out.symm
          clear f0 f1 f2 f3
          go_wp2_with fail
          go_roundw
          case rel =>
            have hd : (p ++ (ByteArray.mk #[10])).data.toList = textU (rusX (L.take (k + 1))) := by
              rw [HTN.out]
              simp only [app_data, HP.out, HO.out]
              show _ = _ ++ ((wordK ((5 : Nat) : Int) ++ 32 :: (xg.data.toList ++ tailU ⟨((5 : Nat) : Int), xg.data.toList, xo.data.toList, xn.data.toList⟩)) ++ [10])
              unfold tailU
              simp
            exact ⟨k + 1, _, by omega, by go_num, rfl, hd, HRN.out, HZN.out, HB4.out⟩
          case measure => simp [intOf]; omega
        have n5 : ¬ (kk : Int) = 5 := by omega
        have N5 := Lib.hid n5
        by_cases e3 : kk = 3
        · subst e3
          obtain rfl : T = 1 := HTX.out.symm
          go_wp2_with fail
          refine (HQO.out _).mono ?_
          rintro e w5 ⟨rfl, hb⟩
          have HB5 := Lib.hid (HB4.out.trans (hb.mono HB4.out.size))
          clear hb f0 f1 f2 f3
          go_wp2_with fail
          go_roundw
          case rel =>
            have hd : (p ++ (ByteArray.mk #[32]) ++ qo ++ (ByteArray.mk #[10])).data.toList = textU (rusX (L.take (k + 1))) := by
              rw [HTN.out]
              simp only [app_data, HP.out, HO.out, HOD.out]
              show _ = _ ++ ((wordK ((3 : Nat) : Int) ++ 32 :: (xg.data.toList ++ tailU ⟨((3 : Nat) : Int), xg.data.toList, xo.data.toList, xn.data.toList⟩)) ++ [10])
              unfold tailU
              simp
            exact ⟨k + 1, _, by omega, by go_num, rfl, hd, HRN.out, HZN.out, HB5.out⟩
          case measure => simp [intOf]; omega
        have N3 := Lib.hid (show ¬ (kk : Int) = 3 by omega)
        obtain rfl : T = 2 := by
          rw [← HTX.out]
          match kk, hk1, hk5, e3, e5 with
          | 1, _, _, _, _ => rfl
          | 2, _, _, _, _ => rfl
          | 3, _, _, e, _ => exact absurd rfl e
          | 4, _, _, _, _ => rfl
          | 5, _, _, _, e => exact absurd rfl e
        clear n5
        go_wp2_with fail
        refine (HQO.out _).mono ?_
        rintro e w5 ⟨rfl, hb⟩
        have HB5 := Lib.hid (HB4.out.trans (hb.mono HB4.out.size))
        clear hb f0 f1 f2 f3
        obtain ⟨f0, f1, f2, f3⟩ := CE.out w5 HB5.out
        go_wp2_with fail
        refine (HQN.out _).mono ?_
        rintro e w6 ⟨rfl, hb⟩
        have HB6 := Lib.hid (HB5.out.trans (hb.mono HB5.out.size))
        clear hb f0 f1 f2 f3
        go_wp2_with fail
        go_roundw
        case rel =>
          have hd : (p ++ (ByteArray.mk #[32]) ++ qo ++ (ByteArray.mk #[32]) ++ qn ++ (ByteArray.mk #[10])).data.toList = textU (rusX (L.take (k + 1))) := by
            rw [HTN.out]
            simp only [app_data, HP.out, HO.out, HOD.out, HND.out]
            show _ = _ ++ ((wordK (kk : Int) ++ 32 :: (xg.data.toList ++ tailU ⟨(kk : Int), xg.data.toList, xo.data.toList, xn.data.toList⟩)) ++ [10])
            unfold tailU
            rw [if_neg N5.out, if_neg (fun h => h.elim N5.out N3.out)]
            simp
          exact ⟨k + 1, _, by omega, by go_num, rfl, hd, HRN.out, HZN.out, HB6.out⟩
        case measure => simp [intOf]; omega
    · obtain rfl : k = L.length := by omega
      have HO2 := Lib.hid (show s.data.toList = textU (rusX L) by have := HO.out; rw [List.take_length] at this; exact this)
      have hall : (rusX L).all rightU = true := by
        rw [List.all_eq_true]
        intro r hr
        obtain ⟨x, hx, rfl⟩ := List.mem_map.1 hr
        obtain ⟨j, hj⟩ := List.getElem?_of_mem hx
        exact HR.out j x (List.getElem?_eq_some_iff.1 hj).1 hj
      by_cases h50 : 50 < L.length
      · have g1 : (50 : Int) < (L.length : Int) := by omega
        have HPR := Lib.hid (show printU (rusX L) = (3, []) by unfold printU; rw [if_pos hall, if_pos (by rw [rusX_length]; exact h50)])
        clear hall
        go_wp2_with fail
        go_ret2
        exact ⟨by rw [HPR.out]; rfl, HBR.out⟩
      · have g1 : ¬ (50 : Int) < (L.length : Int) := by omega
        have HPR := Lib.hid (show printU (rusX L) = (0, textU (rusX L)) by unfold printU; rw [if_pos hall, if_neg (by rw [rusX_length]; exact h50)])
        have HSS := Lib.hid (show s = mkB (textU (rusX L)) from ba_ext (by rw [mkB_data]; exact HO2.out))
        clear hall
        go_wp2_with fail
        go_ret2
        exact ⟨by rw [HPR.out, HSS.out]; rfl, HBR.out⟩
end Go.Proofs.YthkbpophckjdnaaDoor
