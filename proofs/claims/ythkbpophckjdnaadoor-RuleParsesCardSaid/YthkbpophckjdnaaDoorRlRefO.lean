/-
  The document's own: a line's words as a rule.
-/
import Derived.Test.YthkbpophckjdnaaDoorRlRefV
import Derived.Test.YthkbpophckjdnaaDoorRlRefP
import Derived.Test.YthkbpophckjdnaaDoorRlRead
import Derived.Deep.RegionHeld3
import Derived.BigQuiet
import Derived.Deep.Cut
namespace Go.Proofs.YthkbpophckjdnaaDoor
open Go Go.RowKit Go.Shelf Go.Proofs
attribute [local go_sem] Oper.semAt_some

theorem oneU_miss {p0 : Bs} {ps : List Bs} (h : ∀ j, 1 ≤ j → j < 6 → ¬ (kindW p0 = j ∧ (p0 :: ps).length = 2 + textsN j)) : oneU (p0 :: ps) = none := by
  unfold oneU
  simp only [List.getD_cons_zero]
  by_cases h0 : kindW p0 = 0
  · rw [if_pos h0]
  · rw [if_neg h0, if_neg]
    intro e
    have := (word_kind rfl h0).2
    exact h _ this.1 (by omega) ⟨rfl, e⟩
theorem oneU_hit {p0 g : Bs} {Q : List Bs} {k : Nat} (hk : kindW p0 = k) (h0 : k ≠ 0) (hQ : Q.length = textsN k) : oneU (p0 :: g :: Q) = readU k g Q := by
  unfold oneU
  simp only [List.getD_cons_zero, List.getD_cons_succ, List.drop_succ_cons, List.drop_zero]
  rw [hk, if_neg h0, if_pos (by simp; omega)]
theorem mkB_size' (p : Bs) : (mkB p).size = p.length := by simp [mkB_size]
theorem refunq_get (p : Bs) (h : p.length ≤ 20000) : ∃ (s : ByteArray) (u : Bool), s = mkB (unqV p).1 ∧ u = (unqV p).2 ∧ s.size ≤ 20000 ∧ s.data.toList = (unqV p).1 ∧ ∀ W : World, Calls Tryd.prog 15 #[.string (mkB p)] W fun e w' => e = .returned (.tuple #[.string s, .bool u]) ∧ Below W.heap.size W w' := by
  refine ⟨_, _, rfl, rfl, ?_, mkB_data _, fun W => ?_⟩
  · rw [mkB_size]; have := unq_len p; omega
  · have := refunq_any (mkB p) W (by rw [mkB_size]; omega)
    rw [mkB_data] at this
    exact this

set_option maxRecDepth 100000 in
set_option maxHeartbeats 16000000 in
theorem rone_any (ws : List Bs) (gq oq c : Nat) (w : World) (hq : ∀ i p, ws[i]? = some p → w.cell? ⟨gq, oq + i, none⟩ = some (.string (mkB p))) (hgq : gq < w.heap.size) (hne : 0 < ws.length) (hcap : ws.length ≤ c) (hl : ∀ p ∈ ws, p.length ≤ 20000) (hwl : ws.length ≤ 1000000) :
    Calls Tryd.prog 33 #[.slice (some ⟨gq, oq, none⟩) ws.length c] w (ReadPost (oneU ws) w) := by
  obtain ⟨p0, ps, rfl⟩ : ∃ p0 ps, ws = p0 :: ps := by
    cases ws with
    | nil => simp at hne
    | cons p r => exact ⟨_, _, rfl⟩
  obtain ⟨n, hn⟩ : ∃ n, (p0 :: ps).length = n := ⟨_, rfl⟩
  have HN0 := Lib.hid hn
  rw [hn] at hne hcap hwl ⊢
  obtain ⟨RR, hRR⟩ : ∃ RR, oneU (p0 :: ps) = RR := ⟨_, rfl⟩
  rw [hRR]
  have HRR := Lib.hid hRR
  obtain ⟨s0, hs0⟩ : ∃ s0, mkB p0 = s0 := ⟨_, rfl⟩
  have C0 := Lib.hid (fun (W : World) (hb : Below w.heap.size w W) => show W.cell? ⟨gq, oq, none⟩ = some (.string s0) by
    have h1 := hq 0 p0 rfl
    rw [hs0] at h1
    exact (hb.cell (p := ⟨gq, oq, none⟩) hgq).trans h1)
  have HS0 := Lib.hid hs0
  have HQ := Lib.hid hq
  have HL := Lib.hid hl
  have HGQ := Lib.hid hgq
  clear hn hRR hs0 hq hl hgq
  go_enter Tryd.func33, Tryd.ntmps33
  go_wp2_with fail
  go_loopw [3, 4] (fun v3 v4 wr => ∃ k : Nat, 1 ≤ k ∧ k ≤ 6 ∧ v3 = .bool false ∧ v4 = .int .i64 k ∧ Hid (∀ j, 1 ≤ j → j < k → ¬ (kindW p0 = j ∧ (p0 :: ps).length = 2 + textsN j)) ∧ Hid (wr.heap[w.heap.size]? = some (.cells #[.int .i64 0, .string ⟨#[]⟩, .string ⟨#[]⟩, .string ⟨#[]⟩] 35 (0, 0))) ∧ Below w.heap.size w wr) (fun _ v4 _ => 6 - (intOf v4).toNat)
  case atStart => exact ⟨1, Nat.le_refl _, by omega, rfl, rfl, fun j h1 h2 => absurd h2 (by omega), heap_alloc_new w _, (Below.refl _ _).alloc (Nat.le_refl _) _⟩
  case round =>
    obtain ⟨k, hk1, hk6, rfl, rfl, HNO, HZR, hbr⟩ := hrel
    have HBR := Lib.hid hbr
    clear hbr
    by_cases h6 : k < 6
    · have k5 : (k : Int) ≤ 5 := by omega
      have k6 : (k : Int) < 6 := by omega
      have hBr := (Array.getElem?_eq_some_iff.1 HZR.out).1
      have c0r := C0.out wr HBR.out
      obtain ⟨wd, hwd⟩ : ∃ wd, mkB (wordK k) = wd := ⟨_, rfl⟩
      obtain ⟨T, hT⟩ : ∃ T, txtN k = T := ⟨_, rfl⟩
      have htn : textsN k = T := by rw [← hT]; unfold txtN; rw [if_neg (by omega)]
      have hT2 : T ≤ 2 := by rw [← htn]; exact texts_le k
      have HTX := Lib.hid hT
      have HTN := Lib.hid htn
      clear hT htn
      by_cases ek : kindW p0 = k
      · have hw0 : wordK (k : Int) = p0 := (word_kind ek (by omega)).1.symm
        have HWD : Hid (mkB (wordK k) = s0) := by unfold Hid; rw [hw0]; exact HS0.out
        have hq1 : (s0.toList == s0.toList) = true := beq_self_eq_true _
        have hq2 : (s0.toList != s0.toList) = false := bne_self_eq_false _
        clear hwd hw0
        clear wd
        have HEK := Lib.hid ek
        clear ek
        by_cases en : n = 2 + T
        · have wT : IntKind.i64.wrap (2 + (T : Int)) = 2 + (T : Int) := IntWalk.i64_in _ (by omega)
          have en1 : ((n : Int) != 2 + (T : Int)) = false := by rw [bne_eq_false_iff_eq]; omega
          have HEN := Lib.hid en
          have HNG := Lib.hid (show 1 < n by omega)
          clear en
          go_upto_region 4 with fail
          refine wp_region_held_drew (S := (fun w' => w'.cell? ⟨gq, oq, none⟩ = some (.string s0))) (by kernel_rfl) c0r (fun hHeld => ?_)
          refine wpAnyH_take (i := 1) (v := ?vz8_1) rfl (by kernel_rfl) (by kernel_rfl) (by kernel_rfl) (fun _ _ _ h => h) (Or.inl ⟨by rfl, ?yz8_1⟩) (by assumption) ?rz8_1
          case yz8_1 =>
            intro w hSw
            (try dsimp only at hSw)
            go_simp
            first | done | with_reducible rfl
          try simp only [Act.put, List.getElem_toArray, List.getElem_cons_zero, List.getElem_cons_succ, List.setIfInBounds_toArray, List.set_cons_zero, List.set_cons_succ]
          refine wpAnyH_take (i := 4) (v := ?vz8_4) rfl (by kernel_rfl) (by kernel_rfl) (by kernel_rfl) (fun _ _ _ h => h) (Or.inl ⟨by rfl, ?yz8_4⟩) (by assumption) ?rz8_4
          case yz8_4 =>
            intro w hSw
            (try dsimp only at hSw)
            go_simp
            first | done | with_reducible rfl
          try simp only [Act.put, List.getElem_toArray, List.getElem_cons_zero, List.getElem_cons_succ, List.setIfInBounds_toArray, List.set_cons_zero, List.set_cons_succ]
          refine wpAnyH_take (i := 5) (v := ?vz8_5) rfl (by kernel_rfl) (by kernel_rfl) (by kernel_rfl) (fun _ _ _ h => h) (Or.inl ⟨by rfl, ?yz8_5⟩) (by assumption) ?rz8_5
          case yz8_5 =>
            intro w hSw
            (try dsimp only at hSw)
            go_simp
            first | done | with_reducible rfl
          try simp only [Act.put, List.getElem_toArray, List.getElem_cons_zero, List.getElem_cons_succ, List.setIfInBounds_toArray, List.set_cons_zero, List.set_cons_succ]
          refine wpAnyH_take (i := 6) (v := ?vz8_6) rfl (by kernel_rfl) (by kernel_rfl) (by kernel_rfl) (fun _ _ _ h => h) (Or.inl ⟨by rfl, ?yz8_6⟩) (by assumption) ?rz8_6
          case yz8_6 =>
            intro w hSw
            (try dsimp only at hSw)
            go_simp
            first | done | with_reducible rfl
          try simp only [Act.put, List.getElem_toArray, List.getElem_cons_zero, List.getElem_cons_succ, List.setIfInBounds_toArray, List.set_cons_zero, List.set_cons_succ]
          refine wpAnyH_ready (rs := [0]) (by kernel_rfl) (by simp) ?_
          refine AllReadyH.cons rfl (fun K hK => ?_) AllReadyH.nil
          go_simp
          refine (rwords_any _).mono ?_
          rintro e w4 ⟨rfl, hw4⟩
          have hb4 : Below wr.heap.size wr w4 := by rw [hw4]; exact (Below.refl _ _).drew.alloc (Nat.le_refl _) _
          have HB4 := Lib.hid (HBR.out.trans (hb4.mono HBR.out.size))
          have e4 : w4.cell? ⟨wr.heap.size, k, none⟩ = some (.string s0) := by rw [hw4, ← HWD.out]; exact word_at wr.drew _ (by omega)
          have HZ4 := Lib.hid ((hb4.block w.heap.size hBr).trans HZR.out)
          have hs4 := hb4.size
          have f0 := C0.out w4 HB4.out
          have HW4 := Lib.hid hw4
          clear hw4
          refine hK.out _ _ f0 (fun hHeld => ?_)
          clear hK K
          try simp only [Act.put, List.getElem_toArray, List.getElem_cons_zero, List.getElem_cons_succ, List.setIfInBounds_toArray, List.set_cons_zero, List.set_cons_succ]
          have hHeld2 : (fun w' : World => w'.cell? ⟨gq, oq, none⟩ = some (.string s0) ∧ w'.cell? ⟨wr.heap.size, k, none⟩ = some (.string s0)) w4 := ⟨f0, e4⟩
          refine wpAnyH_stronger (S' := fun w' => w'.cell? ⟨gq, oq, none⟩ = some (.string s0) ∧ w'.cell? ⟨wr.heap.size, k, none⟩ = some (.string s0)) (fun w h => h.1) _ _ _ _ ?_
          clear hHeld
          refine wpAnyH_take (i := 2) (v := ?vz8_2) rfl (by kernel_rfl) (by kernel_rfl) (by kernel_rfl) (fun _ _ _ h => h) (Or.inl ⟨by rfl, ?yz8_2⟩) (by assumption) ?rz8_2
          case yz8_2 =>
            intro w hSw
            (try dsimp only at hSw)
            go_simp
            first | done | with_reducible rfl
          try simp only [Act.put, List.getElem_toArray, List.getElem_cons_zero, List.getElem_cons_succ, List.setIfInBounds_toArray, List.set_cons_zero, List.set_cons_succ]
          refine wpAnyH_take (i := 3) (v := ?vz8_3) rfl (by kernel_rfl) (by kernel_rfl) (by kernel_rfl) (fun _ _ _ h => h) (Or.inl ⟨by rfl, ?yz8_3⟩) (by assumption) ?rz8_3
          case yz8_3 =>
            intro w hSw
            (try dsimp only at hSw)
            go_simp
            first | done | with_reducible rfl
          try simp only [Act.put, List.getElem_toArray, List.getElem_cons_zero, List.getElem_cons_succ, List.setIfInBounds_toArray, List.set_cons_zero, List.set_cons_succ]
          refine wpAnyH_take (i := 7) (v := ?vz8_7) rfl (by kernel_rfl) (by kernel_rfl) (by kernel_rfl) (fun _ _ _ h => h) (Or.inl ⟨by rfl, ?yz8_7⟩) (by assumption) ?rz8_7
          case yz8_7 =>
            intro w hSw
            (try dsimp only at hSw)
            go_simp
            first | done | with_reducible rfl
          try simp only [Act.put, List.getElem_toArray, List.getElem_cons_zero, List.getElem_cons_succ, List.setIfInBounds_toArray, List.set_cons_zero, List.set_cons_succ]
          refine wpAnyH_take (i := 8) (v := ?vz8_8) rfl (by kernel_rfl) (by kernel_rfl) (by kernel_rfl) (fun _ _ _ h => h) (Or.inl ⟨by rfl, ?yz8_8⟩) (by assumption) ?rz8_8
          case yz8_8 =>
            intro w hSw
            (try dsimp only at hSw)
            go_simp
            first | done | with_reducible rfl
          try simp only [Act.put, List.getElem_toArray, List.getElem_cons_zero, List.getElem_cons_succ, List.setIfInBounds_toArray, List.set_cons_zero, List.set_cons_succ]
          refine wpAnyH_take (i := 9) (v := ?vz8_9) rfl (by kernel_rfl) (by kernel_rfl) (by kernel_rfl) (fun _ _ _ h => h) (Or.inl ⟨by rfl, ?yz8_9⟩) (by assumption) ?rz8_9
          case yz8_9 =>
            intro w hSw
            (try dsimp only at hSw)
            go_simp
            first | done | with_reducible rfl
          try simp only [Act.put, List.getElem_toArray, List.getElem_cons_zero, List.getElem_cons_succ, List.setIfInBounds_toArray, List.set_cons_zero, List.set_cons_succ]
          refine wpAnyH_take (i := 10) (v := ?vz8_10) rfl (by kernel_rfl) (by kernel_rfl) (by kernel_rfl) (fun _ _ _ h => h) (Or.inl ⟨by rfl, ?yz8_10⟩) (by assumption) ?rz8_10
          case yz8_10 =>
            intro w hSw
            (try dsimp only at hSw)
            go_simp
            first | done | with_reducible rfl
          try simp only [Act.put, List.getElem_toArray, List.getElem_cons_zero, List.getElem_cons_succ, List.setIfInBounds_toArray, List.set_cons_zero, List.set_cons_succ]
          refine wpAnyH_take (i := 11) (v := ?vz8_11) rfl (by kernel_rfl) (by kernel_rfl) (by kernel_rfl) (fun _ _ _ h => h) (Or.inl ⟨by rfl, ?yz8_11⟩) (by assumption) ?rz8_11
          case yz8_11 =>
            intro w hSw
            (try dsimp only at hSw)
            go_simp
            first | done | with_reducible rfl
          try simp only [Act.put, List.getElem_toArray, List.getElem_cons_zero, List.getElem_cons_succ, List.setIfInBounds_toArray, List.set_cons_zero, List.set_cons_succ]
          refine wpAnyH_ready (rs := [12]) (by kernel_rfl) (by simp) ?_
          refine AllReadyH.cons rfl (fun K hK => ?_) AllReadyH.nil
          go_simp
          refine (rtexts_any k _ (by omega)).mono ?_
          rintro e w5 ⟨rfl, hb5'⟩
          have hb5 : Below w4.heap.size w4 w5 := hb5'
          have HB5 := Lib.hid (HB4.out.trans (hb5.mono HB4.out.size))
          have HZ5 := Lib.hid ((hb5.block w.heap.size (by omega)).trans HZ4.out)
          have hs5 := hb5.size
          rw [HTX.out]
          refine hK.out _ _ ⟨C0.out w5 HB5.out, (hb5.cell (p := ⟨wr.heap.size, k, none⟩) (by rw [HW4.out]; show wr.heap.size < (wr.drew.alloc _).heap.size; rw [World.size_alloc]; exact Nat.lt_succ_self _)).trans e4⟩ (fun hHeld => ?_)
          clear hK K hHeld2 hb5 hb5' e4
          try simp only [Act.put, List.getElem_toArray, List.getElem_cons_zero, List.getElem_cons_succ, List.setIfInBounds_toArray, List.set_cons_zero, List.set_cons_succ]
          refine wpAnyH_take (i := 13) (v := ?vz8_13) rfl (by kernel_rfl) (by kernel_rfl) (by kernel_rfl) (fun _ _ _ h => h) (Or.inl ⟨by rfl, ?yz8_13⟩) (by assumption) ?rz8_13
          case yz8_13 =>
            intro w hSw
            (try dsimp only at hSw)
            go_simp
            first | done | with_reducible rfl
          try simp only [Act.put, List.getElem_toArray, List.getElem_cons_zero, List.getElem_cons_succ, List.setIfInBounds_toArray, List.set_cons_zero, List.set_cons_succ]
          refine wpAnyH_take (i := 14) (v := ?vz8_14) rfl (by kernel_rfl) (by kernel_rfl) (by kernel_rfl) (fun _ _ _ h => h) (Or.inl ⟨by rfl, ?yz8_14⟩) (by assumption) ?rz8_14
          case yz8_14 =>
            intro w hSw
            (try dsimp only at hSw)
            go_simp
            first | done | with_reducible rfl
          try simp only [Act.put, List.getElem_toArray, List.getElem_cons_zero, List.getElem_cons_succ, List.setIfInBounds_toArray, List.set_cons_zero, List.set_cons_succ]
          refine wpAnyH_take (i := 15) (v := ?vz8_15) rfl (by kernel_rfl) (by kernel_rfl) (by kernel_rfl) (fun _ _ _ h => h) (Or.inl ⟨by rfl, ?yz8_15⟩) (by assumption) ?rz8_15
          case yz8_15 =>
            intro w hSw
            (try dsimp only at hSw)
            go_simp
            first | done | with_reducible rfl
          try simp only [Act.put, List.getElem_toArray, List.getElem_cons_zero, List.getElem_cons_succ, List.setIfInBounds_toArray, List.set_cons_zero, List.set_cons_succ]
          refine wpAnyH_done (by kernel_rfl) ?_ _
          clear hHeld hs4 hs5 hb4 f0 c0r hq1 hq2 HB4 HZ4
          obtain ⟨pg, Q, rfl⟩ : ∃ pg Q, ps = pg :: Q := by
            cases ps with
            | nil => have := HN0.out; have := HNG.out; simp at *; omega
            | cons p r => exact ⟨_, _, rfl⟩
          have hQl : Q.length = T := by have := HN0.out; have := HEN.out; simp only [List.length_cons] at *; omega
          obtain ⟨g, hg⟩ : ∃ g, mkB pg = g := ⟨_, rfl⟩
          have hgz : g.size ≤ 20000 := by rw [← hg, mkB_size]; exact HL.out pg (by simp)
          have hgd : g.data.toList = pg := by rw [← hg, mkB_data]
          have HW1 := Lib.hid (fun (W : World) (hb : Below w.heap.size w W) => show W.cell? ⟨gq, oq + 1, none⟩ = some (.string g) by
            have h1 := HQ.out 1 pg rfl
            rw [hg] at h1
            exact (hb.cell (p := ⟨gq, oq + 1, none⟩) HGQ.out).trans h1)
          have hread : oneU (p0 :: pg :: Q) = readU k pg Q := oneU_hit HEK.out (by omega) (by rw [HTN.out]; exact hQl)
          rw [HRR.out, ← hgd] at hread
          have HREAD := Lib.hid hread
          have HQL := Lib.hid hQl
          have HGD := Lib.hid hgd
          clear hread hg hQl hgd
          obtain ⟨W6, hW6⟩ : ∃ W, w5.alloc (.cells #[.int .i64 (k : Int), .string g, .string ⟨#[]⟩, .string ⟨#[]⟩] 35) = W := ⟨_, rfl⟩
          obtain ⟨NN, hNN⟩ : ∃ NN, w5.heap.size = NN := ⟨_, rfl⟩
          have HNW := Lib.hid (show w.heap.size < NN by have := (Array.getElem?_eq_some_iff.1 HZ5.out).1; omega)
          have HB6 := Lib.hid (show Below w.heap.size w W6 by rw [← hW6]; exact HB5.out.alloc HB5.out.size _)
          have HN6 := Lib.hid (show W6.heap[NN]? = some (.cells #[.int .i64 (k : Int), .string g, .string ⟨#[]⟩, .string ⟨#[]⟩] 35 (0, 0)) by rw [← hW6, ← hNN]; exact heap_alloc_new _ _)
          have HZ6 := Lib.hid (show W6.heap[w.heap.size]? = some (.cells #[.int .i64 0, .string ⟨#[]⟩, .string ⟨#[]⟩, .string ⟨#[]⟩] 35 (0, 0)) by rw [← hW6]; exact (((Below.refl w5.heap.size w5).alloc (Nat.le_refl _) _).block w.heap.size (Array.getElem?_eq_some_iff.1 HZ5.out).1).trans HZ5.out)
          have HW6 := Lib.hid hW6
          have HNN := Lib.hid hNN
          have cg := HW1.out w5 HB5.out
          have ng := HNG.out
          clear hW6 hNN en1 wT
          go_upto_region 7 with fail
          rw [HW6.out, HNN.out]
          clear cg ng
          go_wp2_with fail
          refine (rtexts_any k W6 (by omega)).mono ?_
          rintro e w7 ⟨rfl, hb⟩
          have HB7 := Lib.hid (HB6.out.trans (hb.mono HB6.out.size))
          have HN7 := Lib.hid ((hb.block NN (Array.getElem?_eq_some_iff.1 HN6.out).1).trans HN6.out)
          have HZ7 := Lib.hid ((hb.block w.heap.size (Array.getElem?_eq_some_iff.1 HZ6.out).1).trans HZ6.out)
          clear hb
          rw [HTX.out]
          have hz0 : (ByteArray.mk #[]).size ≤ 20000 := by decide
          rcases (show T = 0 ∨ T = 1 ∨ T = 2 by omega) with hT0 | hT1 | hT2'
          · subst hT0
            go_wp2_with fail
            refine (rtexts_any k w7 (by omega)).mono ?_
            rintro e w8 ⟨rfl, hb⟩
            have HB8 := Lib.hid (HB7.out.trans (hb.mono HB7.out.size))
            have HN8 := Lib.hid ((hb.block NN (Array.getElem?_eq_some_iff.1 HN7.out).1).trans HN7.out)
            have HZ8 := Lib.hid ((hb.block w.heap.size (Array.getElem?_eq_some_iff.1 HZ7.out).1).trans HZ7.out)
            clear hb
            rw [HTX.out]
            have HR := Lib.hid (show RR = if rightU ⟨(k : Int), g.data.toList, (ByteArray.mk #[]).data.toList, (ByteArray.mk #[]).data.toList⟩ then some ⟨(k : Int), g.data.toList, (ByteArray.mk #[]).data.toList, (ByteArray.mk #[]).data.toList⟩ else none from HREAD.out.trans (readU_all (by rw [HTN.out]; exact TextsTo.start Q)))
            have e0 := cell_of_row _ _ 0 _ _ _ HN8.out
            have e1 := cell_of_row _ _ 1 _ _ _ HN8.out
            have e2 := cell_of_row _ _ 2 _ _ _ HN8.out
            have e3 := cell_of_row _ _ 3 _ _ _ HN8.out
            simp only [List.getElem?_toArray, List.getElem?_cons_zero, List.getElem?_cons_succ] at e0 e1 e2 e3
            have HRT := Lib.hid (rright_any ⟨k, g, (ByteArray.mk #[]), (ByteArray.mk #[])⟩ w8.drew (by show g.size ≤ _; omega) (by show ByteArray.size (ByteArray.mk #[]) ≤ _; omega) (by show ByteArray.size (ByteArray.mk #[]) ≤ _; omega))
            have hruu : (RX.ru ⟨k, g, (ByteArray.mk #[]), (ByteArray.mk #[])⟩) = ⟨(k : Int), g.data.toList, (ByteArray.mk #[]).data.toList, (ByteArray.mk #[]).data.toList⟩ := rfl
            rw [hruu] at HRT
            obtain ⟨bb, hbb⟩ : ∃ bb, rightU ⟨(k : Int), g.data.toList, (ByteArray.mk #[]).data.toList, (ByteArray.mk #[]).data.toList⟩ = bb := ⟨_, rfl⟩
            rw [hbb] at HRT
            have HRX := Lib.hid (show RR = if bb then some (RX.ru ⟨k, g, (ByteArray.mk #[]), (ByteArray.mk #[])⟩) else none by rw [hruu, ← hbb]; exact HR.out)
            clear hruu hbb
            go_upto_region 15 with fail
            refine wp_region_held_drew (S := (fun w' => w'.cell? ⟨NN, 0, none⟩ = some (.int .i64 (k : Int)) ∧ w'.cell? ⟨NN, 1, none⟩ = some (.string g) ∧ w'.cell? ⟨NN, 2, none⟩ = some (.string (ByteArray.mk #[])) ∧ w'.cell? ⟨NN, 3, none⟩ = some (.string (ByteArray.mk #[])))) (by kernel_rfl) ⟨e0, e1, e2, e3⟩ (fun hHeld => ?_)
            refine wpAnyH_take (i := 0) (v := ?vz1_0) rfl (by kernel_rfl) (by kernel_rfl) (by kernel_rfl) (fun _ _ _ h => h) (Or.inl ⟨by rfl, ?yz1_0⟩) (by assumption) ?rz1_0
            case yz1_0 =>
              intro w hSw
              (try dsimp only at hSw)
              go_simp
              first | done | with_reducible rfl
            try simp only [Act.put, List.getElem_toArray, List.getElem_cons_zero, List.setIfInBounds_toArray, List.set_cons_zero, List.set_cons_succ]
            refine wpAnyH_take (i := 1) (v := ?vz1_1) rfl (by kernel_rfl) (by kernel_rfl) (by kernel_rfl) (fun _ _ _ h => h) (Or.inl ⟨by rfl, ?yz1_1⟩) (by assumption) ?rz1_1
            case yz1_1 =>
              intro w hSw
              (try dsimp only at hSw)
              go_simp
              first | done | with_reducible rfl
            try simp only [Act.put, List.getElem_toArray, List.getElem_cons_zero, List.getElem_cons_succ, List.setIfInBounds_toArray, List.set_cons_zero, List.set_cons_succ]
            refine wpAnyH_take (i := 2) (v := ?vz1_2) rfl (by kernel_rfl) (by kernel_rfl) (by kernel_rfl) (fun _ _ _ h => h) (Or.inl ⟨by rfl, ?yz1_2⟩) (by assumption) ?rz1_2
            case yz1_2 =>
              intro w hSw
              (try dsimp only at hSw)
              go_simp
              first | done | with_reducible rfl
            try simp only [Act.put, List.getElem_toArray, List.getElem_cons_zero, List.getElem_cons_succ, List.setIfInBounds_toArray, List.set_cons_zero, List.set_cons_succ]
            refine wpAnyH_take (i := 3) (v := ?vz1_3) rfl (by kernel_rfl) (by kernel_rfl) (by kernel_rfl) (fun _ _ _ h => h) (Or.inl ⟨by rfl, ?yz1_3⟩) (by assumption) ?rz1_3
            case yz1_3 =>
              intro w hSw
              (try dsimp only at hSw)
              go_simp
              first | done | with_reducible rfl
            try simp only [Act.put, List.getElem_toArray, List.getElem_cons_zero, List.getElem_cons_succ, List.setIfInBounds_toArray, List.set_cons_zero, List.set_cons_succ]
            refine wpAnyH_ready (rs := [4]) (by kernel_rfl) (by simp) ?_
            refine AllReadyH.cons rfl (fun K hK => ?_) AllReadyH.nil
            go_simp
            refine HRT.out.mono ?_
            rintro e wy ⟨rfl, hby'⟩
            have hby : Below w8.heap.size w8 wy := (Below.refl _ w8).drew.trans hby'
            have HBY := Lib.hid (HB8.out.trans (hby.mono HB8.out.size))
            have hny := (hby.block NN (Array.getElem?_eq_some_iff.1 HN8.out).1).trans HN8.out
            have hzy := (hby.block w.heap.size (Array.getElem?_eq_some_iff.1 HZ8.out).1).trans HZ8.out
            have y0 := cell_of_row _ _ 0 _ _ _ hny
            have y1 := cell_of_row _ _ 1 _ _ _ hny
            have y2 := cell_of_row _ _ 2 _ _ _ hny
            have y3 := cell_of_row _ _ 3 _ _ _ hny
            have HNY := Lib.hid hny
            have HZY := Lib.hid hzy
            clear hny hzy hby hby'
            go_wp2_with fail
            refine hK.out _ _ ⟨y0, y1, y2, y3⟩ (fun hHeld => ?_)
            clear hK K
            try simp only [Act.put, List.getElem_toArray, List.getElem_cons_zero, List.getElem_cons_succ, List.setIfInBounds_toArray, List.set_cons_zero, List.set_cons_succ]
            refine wpAnyH_take (i := 5) (v := ?vz1_5) rfl (by kernel_rfl) (by kernel_rfl) (by kernel_rfl) (fun _ _ _ h => h) (Or.inl ⟨by rfl, ?yz1_5⟩) (by assumption) ?rz1_5
            case yz1_5 =>
              intro w hSw
              (try dsimp only at hSw)
              go_simp
              first | done | with_reducible rfl
            try simp only [Act.put, List.getElem_toArray, List.getElem_cons_zero, List.getElem_cons_succ, List.setIfInBounds_toArray, List.set_cons_zero, List.set_cons_succ]
            refine wpAnyH_ready (rs := [6]) (by kernel_rfl) (by simp) ?_
            refine AllReadyH.cons rfl (fun K hK => ?_) AllReadyH.nil
            refine wp_store_mid 35 (.tmp 2) (.tmp 65) rfl w.heap.size 0 #[.int .i64 (k : Int), .string g, .string (ByteArray.mk #[]), .string (ByteArray.mk #[])] rfl rfl (fun j hj => there4 HZY.out hj) (by kernel_rfl) (by simp [Value.oneCell']) ?_
            have hst := store4 HZY.out (.int .i64 (k : Int)) (.string g) (.string (ByteArray.mk #[])) (.string (ByteArray.mk #[]))
            obtain ⟨w7, hw7⟩ : ∃ w7, World.setCells wy w.heap.size 0 [.int .i64 (k : Int), .string g, .string (ByteArray.mk #[]), .string (ByteArray.mk #[])] = w7 := ⟨_, rfl⟩
            rw [show (#[Value.int .i64 (k : Int), .string g, .string (ByteArray.mk #[]), .string (ByteArray.mk #[])] : Array Value).toList = [.int .i64 (k : Int), .string g, .string (ByteArray.mk #[]), .string (ByteArray.mk #[])] from rfl, hw7]
            rw [hw7] at hst
            have HST7 := Lib.hid hst.1
            have hn7 := (hst.2 NN (by have := HNW.out; omega)).trans HNY.out
            have z0 := cell_of_row _ _ 0 _ _ _ hn7
            have z1 := cell_of_row _ _ 1 _ _ _ hn7
            have z2 := cell_of_row _ _ 2 _ _ _ hn7
            have z3 := cell_of_row _ _ 3 _ _ _ hn7
            have hbz : Below w.heap.size w w7 := by rw [← hw7]; exact HBY.out.trans (store4_below _ _ _ _ _ (Nat.le_refl _))
            have HBZ := Lib.hid hbz
            clear hst hw7 hn7 hbz
            refine hK.out _ _ ⟨z0, z1, z2, z3⟩ (fun hHeld => ?_)
            clear hK K
            try simp only [Act.put, List.getElem_toArray, List.getElem_cons_zero, List.getElem_cons_succ]
            refine wpAnyH_take (i := 7) (v := ?vz1_7) rfl (by kernel_rfl) (by kernel_rfl) (by kernel_rfl) (fun _ _ _ h => h) (Or.inl ⟨by rfl, ?yz1_7⟩) (by assumption) ?rz1_7
            case yz1_7 =>
              intro w hSw
              (try dsimp only at hSw)
              go_simp
              first | done | with_reducible rfl
            try simp only [Act.put, List.getElem_toArray, List.getElem_cons_zero, List.getElem_cons_succ, List.setIfInBounds_toArray, List.set_cons_zero, List.set_cons_succ]
            refine wpAnyH_done (by kernel_rfl) ?_ _
            go_wp2_with fail
            have hfin : ReadPost RR w (.returned (.tuple #[.agg #[.int .i64 (k : Int), .string g, .string (ByteArray.mk #[]), .string (ByteArray.mk #[])], .bool bb])) w7 := ⟨⟨k, g, (ByteArray.mk #[]), (ByteArray.mk #[])⟩, bb, rfl, by rw [HRX.out]; try rfl, HBZ.out⟩
            exact bodyPost_ret (results_ct2 rfl _ _ _ _ _ (0, 0) _ (.bool bb) rfl rfl HST7.out Tryd.underlying35 rfl (by kernel_rfl)) rfl hfin
          · subst hT1
            obtain ⟨q0, hq0⟩ : ∃ q, Q[0]? = some q := ⟨_, List.getElem?_eq_getElem (by rw [HQL.out]; omega)⟩
            have hql0 := HL.out q0 (List.mem_cons_of_mem _ (List.mem_cons_of_mem _ (List.mem_of_getElem? hq0)))
            have HW2 := Lib.hid (fun (W : World) (hb : Below w.heap.size w W) => show W.cell? ⟨gq, oq + 2, none⟩ = some (.string (mkB q0)) from (hb.cell (p := ⟨gq, oq + 2, none⟩) HGQ.out).trans (HQ.out 2 q0 (by simpa using hq0)))
            obtain ⟨so0, uu0, hso0, huu0, hsz0, hsd0, HU0'⟩ := refunq_get q0 hql0
            have HU0 := Lib.hid HU0'
            have HQ0 := Lib.hid hq0
            have HUU0 := Lib.hid huu0
            have HSD0 := Lib.hid hsd0
            have HQL0 := Lib.hid hql0
            clear hq0 hso0 huu0 hsd0 HU0' hql0
            cases uu0 with
            | true =>
              have ng2 : 2 < n := by have := HEN.out; omega
              have cw := HW2.out w7 HB7.out
              go_wp2_with fail
              refine (HU0.out w7).mono ?_
              rintro e w8 ⟨rfl, hb⟩
              have hnb := (hb.block NN (Array.getElem?_eq_some_iff.1 HN7.out).1).trans HN7.out
              have hzb := (hb.block w.heap.size (Array.getElem?_eq_some_iff.1 HZ7.out).1).trans HZ7.out
              have ef := cell_of_row _ _ 2 _ _ _ hnb
              have ff := frozen_of_row _ _ 2 _ _ hnb
              simp only [List.getElem?_toArray, List.getElem?_cons_zero, List.getElem?_cons_succ] at ef
              obtain ⟨W9, hc⟩ : ∃ W, World.setCell w8 ⟨NN, 2, none⟩ (.string so0) = W := ⟨_, rfl⟩
              have HB9 := Lib.hid (show Below w.heap.size w W9 by rw [← hc]; exact (HB7.out.trans (hb.mono HB7.out.size)).setCell (p := ⟨NN, 2, none⟩) (by have := HNW.out; show w.heap.size ≤ NN; omega) _)
              have HN9 := Lib.hid (show W9.heap[NN]? = some (.cells #[.int .i64 (k : Int), .string g, .string so0, .string (ByteArray.mk #[])] 35 (0, 0)) by rw [← hc]; exact heap_setCell_same w8 NN 2 _ _ (.string so0) hnb)
              have HZ9 := Lib.hid (show W9.heap[w.heap.size]? = some (.cells #[.int .i64 0, .string ⟨#[]⟩, .string ⟨#[]⟩, .string ⟨#[]⟩] 35 (0, 0)) by rw [← hc]; exact (heap_setCell_other w8 ⟨NN, 2, none⟩ w.heap.size _ (by have := HNW.out; show w.heap.size ≠ NN; omega)).trans hzb)
              have HC0 := Lib.hid hc
              clear hb hnb hzb hc cw
              go_upto_region 11 with fail
              rw [HC0.out]
              clear ef ff
              go_wp2_with fail
              refine (rtexts_any k W9 (by omega)).mono ?_
              rintro e w10 ⟨rfl, hb⟩
              have HB10 := Lib.hid (HB9.out.trans (hb.mono HB9.out.size))
              have HN10 := Lib.hid ((hb.block NN (Array.getElem?_eq_some_iff.1 HN9.out).1).trans HN9.out)
              have HZ10 := Lib.hid ((hb.block w.heap.size (Array.getElem?_eq_some_iff.1 HZ9.out).1).trans HZ9.out)
              clear hb
              rw [HTX.out]
              have HR := Lib.hid (show RR = if rightU ⟨(k : Int), g.data.toList, so0.data.toList, (ByteArray.mk #[]).data.toList⟩ then some ⟨(k : Int), g.data.toList, so0.data.toList, (ByteArray.mk #[]).data.toList⟩ else none by
                have ht := (TextsTo.start Q).first HQ0.out (by have := HQL0.out; omega) HUU0.out.symm
                rw [← HSD0.out] at ht
                exact HREAD.out.trans (readU_all (by rw [HTN.out]; exact ht)))
              have e0 := cell_of_row _ _ 0 _ _ _ HN10.out
              have e1 := cell_of_row _ _ 1 _ _ _ HN10.out
              have e2 := cell_of_row _ _ 2 _ _ _ HN10.out
              have e3 := cell_of_row _ _ 3 _ _ _ HN10.out
              simp only [List.getElem?_toArray, List.getElem?_cons_zero, List.getElem?_cons_succ] at e0 e1 e2 e3
              have HRT := Lib.hid (rright_any ⟨k, g, so0, (ByteArray.mk #[])⟩ w10.drew (by show g.size ≤ _; omega) (by show ByteArray.size so0 ≤ _; omega) (by show ByteArray.size (ByteArray.mk #[]) ≤ _; omega))
              have hruu : (RX.ru ⟨k, g, so0, (ByteArray.mk #[])⟩) = ⟨(k : Int), g.data.toList, so0.data.toList, (ByteArray.mk #[]).data.toList⟩ := rfl
              rw [hruu] at HRT
              obtain ⟨bb, hbb⟩ : ∃ bb, rightU ⟨(k : Int), g.data.toList, so0.data.toList, (ByteArray.mk #[]).data.toList⟩ = bb := ⟨_, rfl⟩
              rw [hbb] at HRT
              have HRX := Lib.hid (show RR = if bb then some (RX.ru ⟨k, g, so0, (ByteArray.mk #[])⟩) else none by rw [hruu, ← hbb]; exact HR.out)
              clear hruu hbb
              go_upto_region 15 with fail
              refine wp_region_held_drew (S := (fun w' => w'.cell? ⟨NN, 0, none⟩ = some (.int .i64 (k : Int)) ∧ w'.cell? ⟨NN, 1, none⟩ = some (.string g) ∧ w'.cell? ⟨NN, 2, none⟩ = some (.string so0) ∧ w'.cell? ⟨NN, 3, none⟩ = some (.string (ByteArray.mk #[])))) (by kernel_rfl) ⟨e0, e1, e2, e3⟩ (fun hHeld => ?_)
              refine wpAnyH_take (i := 0) (v := ?vz2_0) rfl (by kernel_rfl) (by kernel_rfl) (by kernel_rfl) (fun _ _ _ h => h) (Or.inl ⟨by rfl, ?yz2_0⟩) (by assumption) ?rz2_0
              case yz2_0 =>
                intro w hSw
                (try dsimp only at hSw)
                go_simp
                first | done | with_reducible rfl
              try simp only [Act.put, List.getElem_toArray, List.getElem_cons_zero, List.setIfInBounds_toArray, List.set_cons_zero, List.set_cons_succ]
              refine wpAnyH_take (i := 1) (v := ?vz2_1) rfl (by kernel_rfl) (by kernel_rfl) (by kernel_rfl) (fun _ _ _ h => h) (Or.inl ⟨by rfl, ?yz2_1⟩) (by assumption) ?rz2_1
              case yz2_1 =>
                intro w hSw
                (try dsimp only at hSw)
                go_simp
                first | done | with_reducible rfl
              try simp only [Act.put, List.getElem_toArray, List.getElem_cons_zero, List.getElem_cons_succ, List.setIfInBounds_toArray, List.set_cons_zero, List.set_cons_succ]
              refine wpAnyH_take (i := 2) (v := ?vz2_2) rfl (by kernel_rfl) (by kernel_rfl) (by kernel_rfl) (fun _ _ _ h => h) (Or.inl ⟨by rfl, ?yz2_2⟩) (by assumption) ?rz2_2
              case yz2_2 =>
                intro w hSw
                (try dsimp only at hSw)
                go_simp
                first | done | with_reducible rfl
              try simp only [Act.put, List.getElem_toArray, List.getElem_cons_zero, List.getElem_cons_succ, List.setIfInBounds_toArray, List.set_cons_zero, List.set_cons_succ]
              refine wpAnyH_take (i := 3) (v := ?vz2_3) rfl (by kernel_rfl) (by kernel_rfl) (by kernel_rfl) (fun _ _ _ h => h) (Or.inl ⟨by rfl, ?yz2_3⟩) (by assumption) ?rz2_3
              case yz2_3 =>
                intro w hSw
                (try dsimp only at hSw)
                go_simp
                first | done | with_reducible rfl
              try simp only [Act.put, List.getElem_toArray, List.getElem_cons_zero, List.getElem_cons_succ, List.setIfInBounds_toArray, List.set_cons_zero, List.set_cons_succ]
              refine wpAnyH_ready (rs := [4]) (by kernel_rfl) (by simp) ?_
              refine AllReadyH.cons rfl (fun K hK => ?_) AllReadyH.nil
              go_simp
              refine HRT.out.mono ?_
              rintro e wy ⟨rfl, hby'⟩
              have hby : Below w10.heap.size w10 wy := (Below.refl _ w10).drew.trans hby'
              have HBY := Lib.hid (HB10.out.trans (hby.mono HB10.out.size))
              have hny := (hby.block NN (Array.getElem?_eq_some_iff.1 HN10.out).1).trans HN10.out
              have hzy := (hby.block w.heap.size (Array.getElem?_eq_some_iff.1 HZ10.out).1).trans HZ10.out
              have y0 := cell_of_row _ _ 0 _ _ _ hny
              have y1 := cell_of_row _ _ 1 _ _ _ hny
              have y2 := cell_of_row _ _ 2 _ _ _ hny
              have y3 := cell_of_row _ _ 3 _ _ _ hny
              have HNY := Lib.hid hny
              have HZY := Lib.hid hzy
              clear hny hzy hby hby'
              go_wp2_with fail
              refine hK.out _ _ ⟨y0, y1, y2, y3⟩ (fun hHeld => ?_)
              clear hK K
              try simp only [Act.put, List.getElem_toArray, List.getElem_cons_zero, List.getElem_cons_succ, List.setIfInBounds_toArray, List.set_cons_zero, List.set_cons_succ]
              refine wpAnyH_take (i := 5) (v := ?vz2_5) rfl (by kernel_rfl) (by kernel_rfl) (by kernel_rfl) (fun _ _ _ h => h) (Or.inl ⟨by rfl, ?yz2_5⟩) (by assumption) ?rz2_5
              case yz2_5 =>
                intro w hSw
                (try dsimp only at hSw)
                go_simp
                first | done | with_reducible rfl
              try simp only [Act.put, List.getElem_toArray, List.getElem_cons_zero, List.getElem_cons_succ, List.setIfInBounds_toArray, List.set_cons_zero, List.set_cons_succ]
              refine wpAnyH_ready (rs := [6]) (by kernel_rfl) (by simp) ?_
              refine AllReadyH.cons rfl (fun K hK => ?_) AllReadyH.nil
              refine wp_store_mid 35 (.tmp 2) (.tmp 65) rfl w.heap.size 0 #[.int .i64 (k : Int), .string g, .string so0, .string (ByteArray.mk #[])] rfl rfl (fun j hj => there4 HZY.out hj) (by kernel_rfl) (by simp [Value.oneCell']) ?_
              have hst := store4 HZY.out (.int .i64 (k : Int)) (.string g) (.string so0) (.string (ByteArray.mk #[]))
              obtain ⟨w7, hw7⟩ : ∃ w7, World.setCells wy w.heap.size 0 [.int .i64 (k : Int), .string g, .string so0, .string (ByteArray.mk #[])] = w7 := ⟨_, rfl⟩
              rw [show (#[Value.int .i64 (k : Int), .string g, .string so0, .string (ByteArray.mk #[])] : Array Value).toList = [.int .i64 (k : Int), .string g, .string so0, .string (ByteArray.mk #[])] from rfl, hw7]
              rw [hw7] at hst
              have HST7 := Lib.hid hst.1
              have hn7 := (hst.2 NN (by have := HNW.out; omega)).trans HNY.out
              have z0 := cell_of_row _ _ 0 _ _ _ hn7
              have z1 := cell_of_row _ _ 1 _ _ _ hn7
              have z2 := cell_of_row _ _ 2 _ _ _ hn7
              have z3 := cell_of_row _ _ 3 _ _ _ hn7
              have hbz : Below w.heap.size w w7 := by rw [← hw7]; exact HBY.out.trans (store4_below _ _ _ _ _ (Nat.le_refl _))
              have HBZ := Lib.hid hbz
              clear hst hw7 hn7 hbz
              refine hK.out _ _ ⟨z0, z1, z2, z3⟩ (fun hHeld => ?_)
              clear hK K
              try simp only [Act.put, List.getElem_toArray, List.getElem_cons_zero, List.getElem_cons_succ]
              refine wpAnyH_take (i := 7) (v := ?vz2_7) rfl (by kernel_rfl) (by kernel_rfl) (by kernel_rfl) (fun _ _ _ h => h) (Or.inl ⟨by rfl, ?yz2_7⟩) (by assumption) ?rz2_7
              case yz2_7 =>
                intro w hSw
                (try dsimp only at hSw)
                go_simp
                first | done | with_reducible rfl
              try simp only [Act.put, List.getElem_toArray, List.getElem_cons_zero, List.getElem_cons_succ, List.setIfInBounds_toArray, List.set_cons_zero, List.set_cons_succ]
              refine wpAnyH_done (by kernel_rfl) ?_ _
              go_wp2_with fail
              have hfin : ReadPost RR w (.returned (.tuple #[.agg #[.int .i64 (k : Int), .string g, .string so0, .string (ByteArray.mk #[])], .bool bb])) w7 := ⟨⟨k, g, so0, (ByteArray.mk #[])⟩, bb, rfl, by rw [HRX.out]; try rfl, HBZ.out⟩
              exact bodyPost_ret (results_ct2 rfl _ _ _ _ _ (0, 0) _ (.bool bb) rfl rfl HST7.out Tryd.underlying35 rfl (by kernel_rfl)) rfl hfin
            | false =>
              have ng2 : 2 < n := by have := HEN.out; omega
              have cw := HW2.out w7 HB7.out
              go_wp2_with fail
              refine (HU0.out w7).mono ?_
              rintro e w8 ⟨rfl, hb⟩
              have hnb := (hb.block NN (Array.getElem?_eq_some_iff.1 HN7.out).1).trans HN7.out
              have hzb := (hb.block w.heap.size (Array.getElem?_eq_some_iff.1 HZ7.out).1).trans HZ7.out
              have ef := cell_of_row _ _ 2 _ _ _ hnb
              have ff := frozen_of_row _ _ 2 _ _ hnb
              simp only [List.getElem?_toArray, List.getElem?_cons_zero, List.getElem?_cons_succ] at ef
              obtain ⟨W9, hc⟩ : ∃ W, World.setCell w8 ⟨NN, 2, none⟩ (.string so0) = W := ⟨_, rfl⟩
              have HB9 := Lib.hid (show Below w.heap.size w W9 by rw [← hc]; exact (HB7.out.trans (hb.mono HB7.out.size)).setCell (p := ⟨NN, 2, none⟩) (by have := HNW.out; show w.heap.size ≤ NN; omega) _)
              have HN9 := Lib.hid (show W9.heap[NN]? = some (.cells #[.int .i64 (k : Int), .string g, .string so0, .string (ByteArray.mk #[])] 35 (0, 0)) by rw [← hc]; exact heap_setCell_same w8 NN 2 _ _ (.string so0) hnb)
              have HZ9 := Lib.hid (show W9.heap[w.heap.size]? = some (.cells #[.int .i64 0, .string ⟨#[]⟩, .string ⟨#[]⟩, .string ⟨#[]⟩] 35 (0, 0)) by rw [← hc]; exact (heap_setCell_other w8 ⟨NN, 2, none⟩ w.heap.size _ (by have := HNW.out; show w.heap.size ≠ NN; omega)).trans hzb)
              have HC0 := Lib.hid hc
              clear hb hnb hzb hc cw
              go_upto_region 11 with fail
              rw [HC0.out]
              clear ef ff
              go_wp2_with fail
              refine (rtexts_any k W9 (by omega)).mono ?_
              rintro e w10 ⟨rfl, hb⟩
              have HB10 := Lib.hid (HB9.out.trans (hb.mono HB9.out.size))
              have HN10 := Lib.hid ((hb.block NN (Array.getElem?_eq_some_iff.1 HN9.out).1).trans HN9.out)
              have HZ10 := Lib.hid ((hb.block w.heap.size (Array.getElem?_eq_some_iff.1 HZ9.out).1).trans HZ9.out)
              clear hb
              rw [HTX.out]
              have HR := Lib.hid (show RR = none from HREAD.out.trans (readU_bad (j := 0) (by rw [HTN.out]; omega) HQ0.out HUU0.out.symm))
              have e0 := cell_of_row _ _ 0 _ _ _ HN10.out
              have e1 := cell_of_row _ _ 1 _ _ _ HN10.out
              have e2 := cell_of_row _ _ 2 _ _ _ HN10.out
              have e3 := cell_of_row _ _ 3 _ _ _ HN10.out
              simp only [List.getElem?_toArray, List.getElem?_cons_zero, List.getElem?_cons_succ] at e0 e1 e2 e3
              go_upto_region 15 with fail
              refine wp_region_held_drew (S := (fun w' => w'.cell? ⟨NN, 0, none⟩ = some (.int .i64 (k : Int)) ∧ w'.cell? ⟨NN, 1, none⟩ = some (.string g) ∧ w'.cell? ⟨NN, 2, none⟩ = some (.string so0) ∧ w'.cell? ⟨NN, 3, none⟩ = some (.string (ByteArray.mk #[])))) (by kernel_rfl) ⟨e0, e1, e2, e3⟩ (fun hHeld => ?_)
              refine wpAnyH_take (i := 0) (v := ?vz3_0) rfl (by kernel_rfl) (by kernel_rfl) (by kernel_rfl) (fun _ _ _ h => h) (Or.inl ⟨by rfl, ?yz3_0⟩) (by assumption) ?rz3_0
              case yz3_0 =>
                intro w hSw
                (try dsimp only at hSw)
                go_simp
                first | done | with_reducible rfl
              try simp only [Act.put, List.getElem_toArray, List.getElem_cons_zero, List.setIfInBounds_toArray, List.set_cons_zero, List.set_cons_succ]
              refine wpAnyH_take (i := 1) (v := ?vz3_1) rfl (by kernel_rfl) (by kernel_rfl) (by kernel_rfl) (fun _ _ _ h => h) (Or.inl ⟨by rfl, ?yz3_1⟩) (by assumption) ?rz3_1
              case yz3_1 =>
                intro w hSw
                (try dsimp only at hSw)
                go_simp
                first | done | with_reducible rfl
              try simp only [Act.put, List.getElem_toArray, List.getElem_cons_zero, List.getElem_cons_succ, List.setIfInBounds_toArray, List.set_cons_zero, List.set_cons_succ]
              refine wpAnyH_take (i := 2) (v := ?vz3_2) rfl (by kernel_rfl) (by kernel_rfl) (by kernel_rfl) (fun _ _ _ h => h) (Or.inl ⟨by rfl, ?yz3_2⟩) (by assumption) ?rz3_2
              case yz3_2 =>
                intro w hSw
                (try dsimp only at hSw)
                go_simp
                first | done | with_reducible rfl
              try simp only [Act.put, List.getElem_toArray, List.getElem_cons_zero, List.getElem_cons_succ, List.setIfInBounds_toArray, List.set_cons_zero, List.set_cons_succ]
              have HBY := Lib.hid (show Below w.heap.size w w10.drew from HB10.out.drew)
              have HNY := Lib.hid (show w10.drew.heap[NN]? = _ from HN10.out)
              have HZY := Lib.hid (show w10.drew.heap[w.heap.size]? = _ from HZ10.out)
              refine wpAnyH_take (i := 3) (v := undef) rfl (by kernel_rfl) (by kernel_rfl) (by kernel_rfl) (fun _ _ _ h => h) (Or.inr ⟨by rfl, rfl⟩) (by assumption) ?rz3_3
              try simp only [Act.put, List.getElem_toArray, List.getElem_cons_zero, List.getElem_cons_succ, List.setIfInBounds_toArray, List.set_cons_zero, List.set_cons_succ]
              refine wpAnyH_take (i := 4) (v := undef) rfl (by kernel_rfl) (by kernel_rfl) (by kernel_rfl) (fun _ _ _ h => h) (Or.inr ⟨by rfl, rfl⟩) (by assumption) ?rz3_4
              try simp only [Act.put, List.getElem_toArray, List.getElem_cons_zero, List.getElem_cons_succ, List.setIfInBounds_toArray, List.set_cons_zero, List.set_cons_succ]
              refine wpAnyH_take (i := 5) (v := ?vz3_5) rfl (by kernel_rfl) (by kernel_rfl) (by kernel_rfl) (fun _ _ _ h => h) (Or.inl ⟨by rfl, ?yz3_5⟩) (by assumption) ?rz3_5
              case yz3_5 =>
                intro w hSw
                (try dsimp only at hSw)
                go_simp
                first | done | with_reducible rfl
              try simp only [Act.put, List.getElem_toArray, List.getElem_cons_zero, List.getElem_cons_succ, List.setIfInBounds_toArray, List.set_cons_zero, List.set_cons_succ]
              refine wpAnyH_ready (rs := [6]) (by kernel_rfl) (by simp) ?_
              refine AllReadyH.cons rfl (fun K hK => ?_) AllReadyH.nil
              refine wp_store_mid 35 (.tmp 2) (.tmp 65) rfl w.heap.size 0 #[.int .i64 (k : Int), .string g, .string so0, .string (ByteArray.mk #[])] rfl rfl (fun j hj => there4 HZY.out hj) (by kernel_rfl) (by simp [Value.oneCell']) ?_
              have hst := store4 HZY.out (.int .i64 (k : Int)) (.string g) (.string so0) (.string (ByteArray.mk #[]))
              obtain ⟨w7, hw7⟩ : ∃ w7, World.setCells w10.drew w.heap.size 0 [.int .i64 (k : Int), .string g, .string so0, .string (ByteArray.mk #[])] = w7 := ⟨_, rfl⟩
              rw [show (#[Value.int .i64 (k : Int), .string g, .string so0, .string (ByteArray.mk #[])] : Array Value).toList = [.int .i64 (k : Int), .string g, .string so0, .string (ByteArray.mk #[])] from rfl, hw7]
              rw [hw7] at hst
              have HST7 := Lib.hid hst.1
              have hn7 := (hst.2 NN (by have := HNW.out; omega)).trans HNY.out
              have z0 := cell_of_row _ _ 0 _ _ _ hn7
              have z1 := cell_of_row _ _ 1 _ _ _ hn7
              have z2 := cell_of_row _ _ 2 _ _ _ hn7
              have z3 := cell_of_row _ _ 3 _ _ _ hn7
              have hbz : Below w.heap.size w w7 := by rw [← hw7]; exact HBY.out.trans (store4_below _ _ _ _ _ (Nat.le_refl _))
              have HBZ := Lib.hid hbz
              clear hst hw7 hn7 hbz
              refine hK.out _ _ ⟨z0, z1, z2, z3⟩ (fun hHeld => ?_)
              clear hK K
              try simp only [Act.put, List.getElem_toArray, List.getElem_cons_zero, List.getElem_cons_succ]
              refine wpAnyH_take (i := 7) (v := ?vz3_7) rfl (by kernel_rfl) (by kernel_rfl) (by kernel_rfl) (fun _ _ _ h => h) (Or.inl ⟨by rfl, ?yz3_7⟩) (by assumption) ?rz3_7
              case yz3_7 =>
                intro w hSw
                (try dsimp only at hSw)
                go_simp
                first | done | with_reducible rfl
              try simp only [Act.put, List.getElem_toArray, List.getElem_cons_zero, List.getElem_cons_succ, List.setIfInBounds_toArray, List.set_cons_zero, List.set_cons_succ]
              refine wpAnyH_done (by kernel_rfl) ?_ _
              go_wp2_with fail
              have hfin : ReadPost RR w (.returned (.tuple #[.agg #[.int .i64 (k : Int), .string g, .string so0, .string (ByteArray.mk #[])], .bool false])) w7 := ⟨⟨k, g, so0, (ByteArray.mk #[])⟩, false, rfl, by rw [HR.out]; try rfl, HBZ.out⟩
              exact bodyPost_ret (results_ct2 rfl _ _ _ _ _ (0, 0) _ (.bool false) rfl rfl HST7.out Tryd.underlying35 rfl (by kernel_rfl)) rfl hfin
          · subst hT2'
            obtain ⟨q0, hq0⟩ : ∃ q, Q[0]? = some q := ⟨_, List.getElem?_eq_getElem (by rw [HQL.out]; omega)⟩
            have hql0 := HL.out q0 (List.mem_cons_of_mem _ (List.mem_cons_of_mem _ (List.mem_of_getElem? hq0)))
            have HW2 := Lib.hid (fun (W : World) (hb : Below w.heap.size w W) => show W.cell? ⟨gq, oq + 2, none⟩ = some (.string (mkB q0)) from (hb.cell (p := ⟨gq, oq + 2, none⟩) HGQ.out).trans (HQ.out 2 q0 (by simpa using hq0)))
            obtain ⟨so0, uu0, hso0, huu0, hsz0, hsd0, HU0'⟩ := refunq_get q0 hql0
            have HU0 := Lib.hid HU0'
            have HQ0 := Lib.hid hq0
            have HUU0 := Lib.hid huu0
            have HSD0 := Lib.hid hsd0
            have HQL0 := Lib.hid hql0
            clear hq0 hso0 huu0 hsd0 HU0' hql0
            obtain ⟨q1, hq1⟩ : ∃ q, Q[1]? = some q := ⟨_, List.getElem?_eq_getElem (by rw [HQL.out]; omega)⟩
            have hql1 := HL.out q1 (List.mem_cons_of_mem _ (List.mem_cons_of_mem _ (List.mem_of_getElem? hq1)))
            have HW3 := Lib.hid (fun (W : World) (hb : Below w.heap.size w W) => show W.cell? ⟨gq, oq + 3, none⟩ = some (.string (mkB q1)) from (hb.cell (p := ⟨gq, oq + 3, none⟩) HGQ.out).trans (HQ.out 3 q1 (by simpa using hq1)))
            obtain ⟨so1, uu1, hso1, huu1, hsz1, hsd1, HU1'⟩ := refunq_get q1 hql1
            have HU1 := Lib.hid HU1'
            have HQ1 := Lib.hid hq1
            have HUU1 := Lib.hid huu1
            have HSD1 := Lib.hid hsd1
            have HQL1 := Lib.hid hql1
            clear hq1 hso1 huu1 hsd1 HU1' hql1
            cases uu0 with
            | true =>
              cases uu1 with
              | true =>
                have ng2 : 2 < n := by have := HEN.out; omega
                have ng3 : 3 < n := by have := HEN.out; omega
                have cw := HW2.out w7 HB7.out
                go_wp2_with fail
                refine (HU0.out w7).mono ?_
                rintro e w8 ⟨rfl, hb⟩
                have hnb := (hb.block NN (Array.getElem?_eq_some_iff.1 HN7.out).1).trans HN7.out
                have hzb := (hb.block w.heap.size (Array.getElem?_eq_some_iff.1 HZ7.out).1).trans HZ7.out
                have ef := cell_of_row _ _ 2 _ _ _ hnb
                have ff := frozen_of_row _ _ 2 _ _ hnb
                simp only [List.getElem?_toArray, List.getElem?_cons_zero, List.getElem?_cons_succ] at ef
                obtain ⟨W9, hc⟩ : ∃ W, World.setCell w8 ⟨NN, 2, none⟩ (.string so0) = W := ⟨_, rfl⟩
                have HB9 := Lib.hid (show Below w.heap.size w W9 by rw [← hc]; exact (HB7.out.trans (hb.mono HB7.out.size)).setCell (p := ⟨NN, 2, none⟩) (by have := HNW.out; show w.heap.size ≤ NN; omega) _)
                have HN9 := Lib.hid (show W9.heap[NN]? = some (.cells #[.int .i64 (k : Int), .string g, .string so0, .string (ByteArray.mk #[])] 35 (0, 0)) by rw [← hc]; exact heap_setCell_same w8 NN 2 _ _ (.string so0) hnb)
                have HZ9 := Lib.hid (show W9.heap[w.heap.size]? = some (.cells #[.int .i64 0, .string ⟨#[]⟩, .string ⟨#[]⟩, .string ⟨#[]⟩] 35 (0, 0)) by rw [← hc]; exact (heap_setCell_other w8 ⟨NN, 2, none⟩ w.heap.size _ (by have := HNW.out; show w.heap.size ≠ NN; omega)).trans hzb)
                have HC0 := Lib.hid hc
                clear hb hnb hzb hc cw
                go_upto_region 11 with fail
                rw [HC0.out]
                clear ef ff
                go_wp2_with fail
                refine (rtexts_any k W9 (by omega)).mono ?_
                rintro e w10 ⟨rfl, hb⟩
                have HB10 := Lib.hid (HB9.out.trans (hb.mono HB9.out.size))
                have HN10 := Lib.hid ((hb.block NN (Array.getElem?_eq_some_iff.1 HN9.out).1).trans HN9.out)
                have HZ10 := Lib.hid ((hb.block w.heap.size (Array.getElem?_eq_some_iff.1 HZ9.out).1).trans HZ9.out)
                clear hb
                rw [HTX.out]
                have cw := HW3.out w10 HB10.out
                go_wp2_with fail
                refine (HU1.out w10).mono ?_
                rintro e w11 ⟨rfl, hb⟩
                have hnb := (hb.block NN (Array.getElem?_eq_some_iff.1 HN10.out).1).trans HN10.out
                have hzb := (hb.block w.heap.size (Array.getElem?_eq_some_iff.1 HZ10.out).1).trans HZ10.out
                have ef := cell_of_row _ _ 3 _ _ _ hnb
                have ff := frozen_of_row _ _ 3 _ _ hnb
                simp only [List.getElem?_toArray, List.getElem?_cons_zero, List.getElem?_cons_succ] at ef
                obtain ⟨W12, hc⟩ : ∃ W, World.setCell w11 ⟨NN, 3, none⟩ (.string so1) = W := ⟨_, rfl⟩
                have HB12 := Lib.hid (show Below w.heap.size w W12 by rw [← hc]; exact (HB10.out.trans (hb.mono HB10.out.size)).setCell (p := ⟨NN, 3, none⟩) (by have := HNW.out; show w.heap.size ≤ NN; omega) _)
                have HN12 := Lib.hid (show W12.heap[NN]? = some (.cells #[.int .i64 (k : Int), .string g, .string so0, .string so1] 35 (0, 0)) by rw [← hc]; exact heap_setCell_same w11 NN 3 _ _ (.string so1) hnb)
                have HZ12 := Lib.hid (show W12.heap[w.heap.size]? = some (.cells #[.int .i64 0, .string ⟨#[]⟩, .string ⟨#[]⟩, .string ⟨#[]⟩] 35 (0, 0)) by rw [← hc]; exact (heap_setCell_other w11 ⟨NN, 3, none⟩ w.heap.size _ (by have := HNW.out; show w.heap.size ≠ NN; omega)).trans hzb)
                have HC1 := Lib.hid hc
                clear hb hnb hzb hc cw
                go_upto_region 15 with fail
                rw [HC1.out]
                clear ef ff
                have HR := Lib.hid (show RR = if rightU ⟨(k : Int), g.data.toList, so0.data.toList, so1.data.toList⟩ then some ⟨(k : Int), g.data.toList, so0.data.toList, so1.data.toList⟩ else none by
                  have ht := ((TextsTo.start Q).first HQ0.out (by have := HQL0.out; omega) HUU0.out.symm).second HQ1.out (by have := HQL1.out; omega) HUU1.out.symm
                  rw [← HSD0.out, ← HSD1.out] at ht
                  exact HREAD.out.trans (readU_all (by rw [HTN.out]; exact ht)))
                have e0 := cell_of_row _ _ 0 _ _ _ HN12.out
                have e1 := cell_of_row _ _ 1 _ _ _ HN12.out
                have e2 := cell_of_row _ _ 2 _ _ _ HN12.out
                have e3 := cell_of_row _ _ 3 _ _ _ HN12.out
                simp only [List.getElem?_toArray, List.getElem?_cons_zero, List.getElem?_cons_succ] at e0 e1 e2 e3
                have HRT := Lib.hid (rright_any ⟨k, g, so0, so1⟩ W12.drew (by show g.size ≤ _; omega) (by show ByteArray.size so0 ≤ _; omega) (by show ByteArray.size so1 ≤ _; omega))
                have hruu : (RX.ru ⟨k, g, so0, so1⟩) = ⟨(k : Int), g.data.toList, so0.data.toList, so1.data.toList⟩ := rfl
                rw [hruu] at HRT
                obtain ⟨bb, hbb⟩ : ∃ bb, rightU ⟨(k : Int), g.data.toList, so0.data.toList, so1.data.toList⟩ = bb := ⟨_, rfl⟩
                rw [hbb] at HRT
                have HRX := Lib.hid (show RR = if bb then some (RX.ru ⟨k, g, so0, so1⟩) else none by rw [hruu, ← hbb]; exact HR.out)
                clear hruu hbb
                refine wp_region_held_drew (S := (fun w' => w'.cell? ⟨NN, 0, none⟩ = some (.int .i64 (k : Int)) ∧ w'.cell? ⟨NN, 1, none⟩ = some (.string g) ∧ w'.cell? ⟨NN, 2, none⟩ = some (.string so0) ∧ w'.cell? ⟨NN, 3, none⟩ = some (.string so1))) (by kernel_rfl) ⟨e0, e1, e2, e3⟩ (fun hHeld => ?_)
                refine wpAnyH_take (i := 0) (v := ?vz4_0) rfl (by kernel_rfl) (by kernel_rfl) (by kernel_rfl) (fun _ _ _ h => h) (Or.inl ⟨by rfl, ?yz4_0⟩) (by assumption) ?rz4_0
                case yz4_0 =>
                  intro w hSw
                  (try dsimp only at hSw)
                  go_simp
                  first | done | with_reducible rfl
                try simp only [Act.put, List.getElem_toArray, List.getElem_cons_zero, List.setIfInBounds_toArray, List.set_cons_zero, List.set_cons_succ]
                refine wpAnyH_take (i := 1) (v := ?vz4_1) rfl (by kernel_rfl) (by kernel_rfl) (by kernel_rfl) (fun _ _ _ h => h) (Or.inl ⟨by rfl, ?yz4_1⟩) (by assumption) ?rz4_1
                case yz4_1 =>
                  intro w hSw
                  (try dsimp only at hSw)
                  go_simp
                  first | done | with_reducible rfl
                try simp only [Act.put, List.getElem_toArray, List.getElem_cons_zero, List.getElem_cons_succ, List.setIfInBounds_toArray, List.set_cons_zero, List.set_cons_succ]
                refine wpAnyH_take (i := 2) (v := ?vz4_2) rfl (by kernel_rfl) (by kernel_rfl) (by kernel_rfl) (fun _ _ _ h => h) (Or.inl ⟨by rfl, ?yz4_2⟩) (by assumption) ?rz4_2
                case yz4_2 =>
                  intro w hSw
                  (try dsimp only at hSw)
                  go_simp
                  first | done | with_reducible rfl
                try simp only [Act.put, List.getElem_toArray, List.getElem_cons_zero, List.getElem_cons_succ, List.setIfInBounds_toArray, List.set_cons_zero, List.set_cons_succ]
                refine wpAnyH_take (i := 3) (v := ?vz4_3) rfl (by kernel_rfl) (by kernel_rfl) (by kernel_rfl) (fun _ _ _ h => h) (Or.inl ⟨by rfl, ?yz4_3⟩) (by assumption) ?rz4_3
                case yz4_3 =>
                  intro w hSw
                  (try dsimp only at hSw)
                  go_simp
                  first | done | with_reducible rfl
                try simp only [Act.put, List.getElem_toArray, List.getElem_cons_zero, List.getElem_cons_succ, List.setIfInBounds_toArray, List.set_cons_zero, List.set_cons_succ]
                refine wpAnyH_ready (rs := [4]) (by kernel_rfl) (by simp) ?_
                refine AllReadyH.cons rfl (fun K hK => ?_) AllReadyH.nil
                go_simp
                refine HRT.out.mono ?_
                rintro e wy ⟨rfl, hby'⟩
                have hby : Below W12.heap.size W12 wy := (Below.refl _ W12).drew.trans hby'
                have HBY := Lib.hid (HB12.out.trans (hby.mono HB12.out.size))
                have hny := (hby.block NN (Array.getElem?_eq_some_iff.1 HN12.out).1).trans HN12.out
                have hzy := (hby.block w.heap.size (Array.getElem?_eq_some_iff.1 HZ12.out).1).trans HZ12.out
                have y0 := cell_of_row _ _ 0 _ _ _ hny
                have y1 := cell_of_row _ _ 1 _ _ _ hny
                have y2 := cell_of_row _ _ 2 _ _ _ hny
                have y3 := cell_of_row _ _ 3 _ _ _ hny
                have HNY := Lib.hid hny
                have HZY := Lib.hid hzy
                clear hny hzy hby hby'
                go_wp2_with fail
                refine hK.out _ _ ⟨y0, y1, y2, y3⟩ (fun hHeld => ?_)
                clear hK K
                try simp only [Act.put, List.getElem_toArray, List.getElem_cons_zero, List.getElem_cons_succ, List.setIfInBounds_toArray, List.set_cons_zero, List.set_cons_succ]
                refine wpAnyH_take (i := 5) (v := ?vz4_5) rfl (by kernel_rfl) (by kernel_rfl) (by kernel_rfl) (fun _ _ _ h => h) (Or.inl ⟨by rfl, ?yz4_5⟩) (by assumption) ?rz4_5
                case yz4_5 =>
                  intro w hSw
                  (try dsimp only at hSw)
                  go_simp
                  first | done | with_reducible rfl
                try simp only [Act.put, List.getElem_toArray, List.getElem_cons_zero, List.getElem_cons_succ, List.setIfInBounds_toArray, List.set_cons_zero, List.set_cons_succ]
                refine wpAnyH_ready (rs := [6]) (by kernel_rfl) (by simp) ?_
                refine AllReadyH.cons rfl (fun K hK => ?_) AllReadyH.nil
                refine wp_store_mid 35 (.tmp 2) (.tmp 65) rfl w.heap.size 0 #[.int .i64 (k : Int), .string g, .string so0, .string so1] rfl rfl (fun j hj => there4 HZY.out hj) (by kernel_rfl) (by simp [Value.oneCell']) ?_
                have hst := store4 HZY.out (.int .i64 (k : Int)) (.string g) (.string so0) (.string so1)
                obtain ⟨w7, hw7⟩ : ∃ w7, World.setCells wy w.heap.size 0 [.int .i64 (k : Int), .string g, .string so0, .string so1] = w7 := ⟨_, rfl⟩
                rw [show (#[Value.int .i64 (k : Int), .string g, .string so0, .string so1] : Array Value).toList = [.int .i64 (k : Int), .string g, .string so0, .string so1] from rfl, hw7]
                rw [hw7] at hst
                have HST7 := Lib.hid hst.1
                have hn7 := (hst.2 NN (by have := HNW.out; omega)).trans HNY.out
                have z0 := cell_of_row _ _ 0 _ _ _ hn7
                have z1 := cell_of_row _ _ 1 _ _ _ hn7
                have z2 := cell_of_row _ _ 2 _ _ _ hn7
                have z3 := cell_of_row _ _ 3 _ _ _ hn7
                have hbz : Below w.heap.size w w7 := by rw [← hw7]; exact HBY.out.trans (store4_below _ _ _ _ _ (Nat.le_refl _))
                have HBZ := Lib.hid hbz
                clear hst hw7 hn7 hbz
                refine hK.out _ _ ⟨z0, z1, z2, z3⟩ (fun hHeld => ?_)
                clear hK K
                try simp only [Act.put, List.getElem_toArray, List.getElem_cons_zero, List.getElem_cons_succ]
                refine wpAnyH_take (i := 7) (v := ?vz4_7) rfl (by kernel_rfl) (by kernel_rfl) (by kernel_rfl) (fun _ _ _ h => h) (Or.inl ⟨by rfl, ?yz4_7⟩) (by assumption) ?rz4_7
                case yz4_7 =>
                  intro w hSw
                  (try dsimp only at hSw)
                  go_simp
                  first | done | with_reducible rfl
                try simp only [Act.put, List.getElem_toArray, List.getElem_cons_zero, List.getElem_cons_succ, List.setIfInBounds_toArray, List.set_cons_zero, List.set_cons_succ]
                refine wpAnyH_done (by kernel_rfl) ?_ _
                go_wp2_with fail
                have hfin : ReadPost RR w (.returned (.tuple #[.agg #[.int .i64 (k : Int), .string g, .string so0, .string so1], .bool bb])) w7 := ⟨⟨k, g, so0, so1⟩, bb, rfl, by rw [HRX.out]; try rfl, HBZ.out⟩
                exact bodyPost_ret (results_ct2 rfl _ _ _ _ _ (0, 0) _ (.bool bb) rfl rfl HST7.out Tryd.underlying35 rfl (by kernel_rfl)) rfl hfin
              | false =>
                have ng2 : 2 < n := by have := HEN.out; omega
                have ng3 : 3 < n := by have := HEN.out; omega
                have cw := HW2.out w7 HB7.out
                go_wp2_with fail
                refine (HU0.out w7).mono ?_
                rintro e w8 ⟨rfl, hb⟩
                have hnb := (hb.block NN (Array.getElem?_eq_some_iff.1 HN7.out).1).trans HN7.out
                have hzb := (hb.block w.heap.size (Array.getElem?_eq_some_iff.1 HZ7.out).1).trans HZ7.out
                have ef := cell_of_row _ _ 2 _ _ _ hnb
                have ff := frozen_of_row _ _ 2 _ _ hnb
                simp only [List.getElem?_toArray, List.getElem?_cons_zero, List.getElem?_cons_succ] at ef
                obtain ⟨W9, hc⟩ : ∃ W, World.setCell w8 ⟨NN, 2, none⟩ (.string so0) = W := ⟨_, rfl⟩
                have HB9 := Lib.hid (show Below w.heap.size w W9 by rw [← hc]; exact (HB7.out.trans (hb.mono HB7.out.size)).setCell (p := ⟨NN, 2, none⟩) (by have := HNW.out; show w.heap.size ≤ NN; omega) _)
                have HN9 := Lib.hid (show W9.heap[NN]? = some (.cells #[.int .i64 (k : Int), .string g, .string so0, .string (ByteArray.mk #[])] 35 (0, 0)) by rw [← hc]; exact heap_setCell_same w8 NN 2 _ _ (.string so0) hnb)
                have HZ9 := Lib.hid (show W9.heap[w.heap.size]? = some (.cells #[.int .i64 0, .string ⟨#[]⟩, .string ⟨#[]⟩, .string ⟨#[]⟩] 35 (0, 0)) by rw [← hc]; exact (heap_setCell_other w8 ⟨NN, 2, none⟩ w.heap.size _ (by have := HNW.out; show w.heap.size ≠ NN; omega)).trans hzb)
                have HC0 := Lib.hid hc
                clear hb hnb hzb hc cw
                go_upto_region 11 with fail
                rw [HC0.out]
                clear ef ff
                go_wp2_with fail
                refine (rtexts_any k W9 (by omega)).mono ?_
                rintro e w10 ⟨rfl, hb⟩
                have HB10 := Lib.hid (HB9.out.trans (hb.mono HB9.out.size))
                have HN10 := Lib.hid ((hb.block NN (Array.getElem?_eq_some_iff.1 HN9.out).1).trans HN9.out)
                have HZ10 := Lib.hid ((hb.block w.heap.size (Array.getElem?_eq_some_iff.1 HZ9.out).1).trans HZ9.out)
                clear hb
                rw [HTX.out]
                have cw := HW3.out w10 HB10.out
                go_wp2_with fail
                refine (HU1.out w10).mono ?_
                rintro e w11 ⟨rfl, hb⟩
                have hnb := (hb.block NN (Array.getElem?_eq_some_iff.1 HN10.out).1).trans HN10.out
                have hzb := (hb.block w.heap.size (Array.getElem?_eq_some_iff.1 HZ10.out).1).trans HZ10.out
                have ef := cell_of_row _ _ 3 _ _ _ hnb
                have ff := frozen_of_row _ _ 3 _ _ hnb
                simp only [List.getElem?_toArray, List.getElem?_cons_zero, List.getElem?_cons_succ] at ef
                obtain ⟨W12, hc⟩ : ∃ W, World.setCell w11 ⟨NN, 3, none⟩ (.string so1) = W := ⟨_, rfl⟩
                have HB12 := Lib.hid (show Below w.heap.size w W12 by rw [← hc]; exact (HB10.out.trans (hb.mono HB10.out.size)).setCell (p := ⟨NN, 3, none⟩) (by have := HNW.out; show w.heap.size ≤ NN; omega) _)
                have HN12 := Lib.hid (show W12.heap[NN]? = some (.cells #[.int .i64 (k : Int), .string g, .string so0, .string so1] 35 (0, 0)) by rw [← hc]; exact heap_setCell_same w11 NN 3 _ _ (.string so1) hnb)
                have HZ12 := Lib.hid (show W12.heap[w.heap.size]? = some (.cells #[.int .i64 0, .string ⟨#[]⟩, .string ⟨#[]⟩, .string ⟨#[]⟩] 35 (0, 0)) by rw [← hc]; exact (heap_setCell_other w11 ⟨NN, 3, none⟩ w.heap.size _ (by have := HNW.out; show w.heap.size ≠ NN; omega)).trans hzb)
                have HC1 := Lib.hid hc
                clear hb hnb hzb hc cw
                go_upto_region 15 with fail
                rw [HC1.out]
                clear ef ff
                have HR := Lib.hid (show RR = none from HREAD.out.trans (readU_bad (j := 1) (by rw [HTN.out]; omega) HQ1.out HUU1.out.symm))
                have e0 := cell_of_row _ _ 0 _ _ _ HN12.out
                have e1 := cell_of_row _ _ 1 _ _ _ HN12.out
                have e2 := cell_of_row _ _ 2 _ _ _ HN12.out
                have e3 := cell_of_row _ _ 3 _ _ _ HN12.out
                simp only [List.getElem?_toArray, List.getElem?_cons_zero, List.getElem?_cons_succ] at e0 e1 e2 e3
                refine wp_region_held_drew (S := (fun w' => w'.cell? ⟨NN, 0, none⟩ = some (.int .i64 (k : Int)) ∧ w'.cell? ⟨NN, 1, none⟩ = some (.string g) ∧ w'.cell? ⟨NN, 2, none⟩ = some (.string so0) ∧ w'.cell? ⟨NN, 3, none⟩ = some (.string so1))) (by kernel_rfl) ⟨e0, e1, e2, e3⟩ (fun hHeld => ?_)
                refine wpAnyH_take (i := 0) (v := ?vz5_0) rfl (by kernel_rfl) (by kernel_rfl) (by kernel_rfl) (fun _ _ _ h => h) (Or.inl ⟨by rfl, ?yz5_0⟩) (by assumption) ?rz5_0
                case yz5_0 =>
                  intro w hSw
                  (try dsimp only at hSw)
                  go_simp
                  first | done | with_reducible rfl
                try simp only [Act.put, List.getElem_toArray, List.getElem_cons_zero, List.setIfInBounds_toArray, List.set_cons_zero, List.set_cons_succ]
                refine wpAnyH_take (i := 1) (v := ?vz5_1) rfl (by kernel_rfl) (by kernel_rfl) (by kernel_rfl) (fun _ _ _ h => h) (Or.inl ⟨by rfl, ?yz5_1⟩) (by assumption) ?rz5_1
                case yz5_1 =>
                  intro w hSw
                  (try dsimp only at hSw)
                  go_simp
                  first | done | with_reducible rfl
                try simp only [Act.put, List.getElem_toArray, List.getElem_cons_zero, List.getElem_cons_succ, List.setIfInBounds_toArray, List.set_cons_zero, List.set_cons_succ]
                refine wpAnyH_take (i := 2) (v := ?vz5_2) rfl (by kernel_rfl) (by kernel_rfl) (by kernel_rfl) (fun _ _ _ h => h) (Or.inl ⟨by rfl, ?yz5_2⟩) (by assumption) ?rz5_2
                case yz5_2 =>
                  intro w hSw
                  (try dsimp only at hSw)
                  go_simp
                  first | done | with_reducible rfl
                try simp only [Act.put, List.getElem_toArray, List.getElem_cons_zero, List.getElem_cons_succ, List.setIfInBounds_toArray, List.set_cons_zero, List.set_cons_succ]
                have HBY := Lib.hid (show Below w.heap.size w W12.drew from HB12.out.drew)
                have HNY := Lib.hid (show W12.drew.heap[NN]? = _ from HN12.out)
                have HZY := Lib.hid (show W12.drew.heap[w.heap.size]? = _ from HZ12.out)
                refine wpAnyH_take (i := 3) (v := undef) rfl (by kernel_rfl) (by kernel_rfl) (by kernel_rfl) (fun _ _ _ h => h) (Or.inr ⟨by rfl, rfl⟩) (by assumption) ?rz5_3
                try simp only [Act.put, List.getElem_toArray, List.getElem_cons_zero, List.getElem_cons_succ, List.setIfInBounds_toArray, List.set_cons_zero, List.set_cons_succ]
                refine wpAnyH_take (i := 4) (v := undef) rfl (by kernel_rfl) (by kernel_rfl) (by kernel_rfl) (fun _ _ _ h => h) (Or.inr ⟨by rfl, rfl⟩) (by assumption) ?rz5_4
                try simp only [Act.put, List.getElem_toArray, List.getElem_cons_zero, List.getElem_cons_succ, List.setIfInBounds_toArray, List.set_cons_zero, List.set_cons_succ]
                refine wpAnyH_take (i := 5) (v := ?vz5_5) rfl (by kernel_rfl) (by kernel_rfl) (by kernel_rfl) (fun _ _ _ h => h) (Or.inl ⟨by rfl, ?yz5_5⟩) (by assumption) ?rz5_5
                case yz5_5 =>
                  intro w hSw
                  (try dsimp only at hSw)
                  go_simp
                  first | done | with_reducible rfl
                try simp only [Act.put, List.getElem_toArray, List.getElem_cons_zero, List.getElem_cons_succ, List.setIfInBounds_toArray, List.set_cons_zero, List.set_cons_succ]
                refine wpAnyH_ready (rs := [6]) (by kernel_rfl) (by simp) ?_
                refine AllReadyH.cons rfl (fun K hK => ?_) AllReadyH.nil
                refine wp_store_mid 35 (.tmp 2) (.tmp 65) rfl w.heap.size 0 #[.int .i64 (k : Int), .string g, .string so0, .string so1] rfl rfl (fun j hj => there4 HZY.out hj) (by kernel_rfl) (by simp [Value.oneCell']) ?_
                have hst := store4 HZY.out (.int .i64 (k : Int)) (.string g) (.string so0) (.string so1)
                obtain ⟨w7, hw7⟩ : ∃ w7, World.setCells W12.drew w.heap.size 0 [.int .i64 (k : Int), .string g, .string so0, .string so1] = w7 := ⟨_, rfl⟩
                rw [show (#[Value.int .i64 (k : Int), .string g, .string so0, .string so1] : Array Value).toList = [.int .i64 (k : Int), .string g, .string so0, .string so1] from rfl, hw7]
                rw [hw7] at hst
                have HST7 := Lib.hid hst.1
                have hn7 := (hst.2 NN (by have := HNW.out; omega)).trans HNY.out
                have z0 := cell_of_row _ _ 0 _ _ _ hn7
                have z1 := cell_of_row _ _ 1 _ _ _ hn7
                have z2 := cell_of_row _ _ 2 _ _ _ hn7
                have z3 := cell_of_row _ _ 3 _ _ _ hn7
                have hbz : Below w.heap.size w w7 := by rw [← hw7]; exact HBY.out.trans (store4_below _ _ _ _ _ (Nat.le_refl _))
                have HBZ := Lib.hid hbz
                clear hst hw7 hn7 hbz
                refine hK.out _ _ ⟨z0, z1, z2, z3⟩ (fun hHeld => ?_)
                clear hK K
                try simp only [Act.put, List.getElem_toArray, List.getElem_cons_zero, List.getElem_cons_succ]
                refine wpAnyH_take (i := 7) (v := ?vz5_7) rfl (by kernel_rfl) (by kernel_rfl) (by kernel_rfl) (fun _ _ _ h => h) (Or.inl ⟨by rfl, ?yz5_7⟩) (by assumption) ?rz5_7
                case yz5_7 =>
                  intro w hSw
                  (try dsimp only at hSw)
                  go_simp
                  first | done | with_reducible rfl
                try simp only [Act.put, List.getElem_toArray, List.getElem_cons_zero, List.getElem_cons_succ, List.setIfInBounds_toArray, List.set_cons_zero, List.set_cons_succ]
                refine wpAnyH_done (by kernel_rfl) ?_ _
                go_wp2_with fail
                have hfin : ReadPost RR w (.returned (.tuple #[.agg #[.int .i64 (k : Int), .string g, .string so0, .string so1], .bool false])) w7 := ⟨⟨k, g, so0, so1⟩, false, rfl, by rw [HR.out]; try rfl, HBZ.out⟩
                exact bodyPost_ret (results_ct2 rfl _ _ _ _ _ (0, 0) _ (.bool false) rfl rfl HST7.out Tryd.underlying35 rfl (by kernel_rfl)) rfl hfin
            | false =>
              cases uu1 with
              | true =>
                have ng2 : 2 < n := by have := HEN.out; omega
                have ng3 : 3 < n := by have := HEN.out; omega
                have cw := HW2.out w7 HB7.out
                go_wp2_with fail
                refine (HU0.out w7).mono ?_
                rintro e w8 ⟨rfl, hb⟩
                have hnb := (hb.block NN (Array.getElem?_eq_some_iff.1 HN7.out).1).trans HN7.out
                have hzb := (hb.block w.heap.size (Array.getElem?_eq_some_iff.1 HZ7.out).1).trans HZ7.out
                have ef := cell_of_row _ _ 2 _ _ _ hnb
                have ff := frozen_of_row _ _ 2 _ _ hnb
                simp only [List.getElem?_toArray, List.getElem?_cons_zero, List.getElem?_cons_succ] at ef
                obtain ⟨W9, hc⟩ : ∃ W, World.setCell w8 ⟨NN, 2, none⟩ (.string so0) = W := ⟨_, rfl⟩
                have HB9 := Lib.hid (show Below w.heap.size w W9 by rw [← hc]; exact (HB7.out.trans (hb.mono HB7.out.size)).setCell (p := ⟨NN, 2, none⟩) (by have := HNW.out; show w.heap.size ≤ NN; omega) _)
                have HN9 := Lib.hid (show W9.heap[NN]? = some (.cells #[.int .i64 (k : Int), .string g, .string so0, .string (ByteArray.mk #[])] 35 (0, 0)) by rw [← hc]; exact heap_setCell_same w8 NN 2 _ _ (.string so0) hnb)
                have HZ9 := Lib.hid (show W9.heap[w.heap.size]? = some (.cells #[.int .i64 0, .string ⟨#[]⟩, .string ⟨#[]⟩, .string ⟨#[]⟩] 35 (0, 0)) by rw [← hc]; exact (heap_setCell_other w8 ⟨NN, 2, none⟩ w.heap.size _ (by have := HNW.out; show w.heap.size ≠ NN; omega)).trans hzb)
                have HC0 := Lib.hid hc
                clear hb hnb hzb hc cw
                go_upto_region 11 with fail
                rw [HC0.out]
                clear ef ff
                go_wp2_with fail
                refine (rtexts_any k W9 (by omega)).mono ?_
                rintro e w10 ⟨rfl, hb⟩
                have HB10 := Lib.hid (HB9.out.trans (hb.mono HB9.out.size))
                have HN10 := Lib.hid ((hb.block NN (Array.getElem?_eq_some_iff.1 HN9.out).1).trans HN9.out)
                have HZ10 := Lib.hid ((hb.block w.heap.size (Array.getElem?_eq_some_iff.1 HZ9.out).1).trans HZ9.out)
                clear hb
                rw [HTX.out]
                have cw := HW3.out w10 HB10.out
                go_wp2_with fail
                refine (HU1.out w10).mono ?_
                rintro e w11 ⟨rfl, hb⟩
                have hnb := (hb.block NN (Array.getElem?_eq_some_iff.1 HN10.out).1).trans HN10.out
                have hzb := (hb.block w.heap.size (Array.getElem?_eq_some_iff.1 HZ10.out).1).trans HZ10.out
                have ef := cell_of_row _ _ 3 _ _ _ hnb
                have ff := frozen_of_row _ _ 3 _ _ hnb
                simp only [List.getElem?_toArray, List.getElem?_cons_zero, List.getElem?_cons_succ] at ef
                obtain ⟨W12, hc⟩ : ∃ W, World.setCell w11 ⟨NN, 3, none⟩ (.string so1) = W := ⟨_, rfl⟩
                have HB12 := Lib.hid (show Below w.heap.size w W12 by rw [← hc]; exact (HB10.out.trans (hb.mono HB10.out.size)).setCell (p := ⟨NN, 3, none⟩) (by have := HNW.out; show w.heap.size ≤ NN; omega) _)
                have HN12 := Lib.hid (show W12.heap[NN]? = some (.cells #[.int .i64 (k : Int), .string g, .string so0, .string so1] 35 (0, 0)) by rw [← hc]; exact heap_setCell_same w11 NN 3 _ _ (.string so1) hnb)
                have HZ12 := Lib.hid (show W12.heap[w.heap.size]? = some (.cells #[.int .i64 0, .string ⟨#[]⟩, .string ⟨#[]⟩, .string ⟨#[]⟩] 35 (0, 0)) by rw [← hc]; exact (heap_setCell_other w11 ⟨NN, 3, none⟩ w.heap.size _ (by have := HNW.out; show w.heap.size ≠ NN; omega)).trans hzb)
                have HC1 := Lib.hid hc
                clear hb hnb hzb hc cw
                go_upto_region 15 with fail
                rw [HC1.out]
                clear ef ff
                have HR := Lib.hid (show RR = none from HREAD.out.trans (readU_bad (j := 0) (by rw [HTN.out]; omega) HQ0.out HUU0.out.symm))
                have e0 := cell_of_row _ _ 0 _ _ _ HN12.out
                have e1 := cell_of_row _ _ 1 _ _ _ HN12.out
                have e2 := cell_of_row _ _ 2 _ _ _ HN12.out
                have e3 := cell_of_row _ _ 3 _ _ _ HN12.out
                simp only [List.getElem?_toArray, List.getElem?_cons_zero, List.getElem?_cons_succ] at e0 e1 e2 e3
                refine wp_region_held_drew (S := (fun w' => w'.cell? ⟨NN, 0, none⟩ = some (.int .i64 (k : Int)) ∧ w'.cell? ⟨NN, 1, none⟩ = some (.string g) ∧ w'.cell? ⟨NN, 2, none⟩ = some (.string so0) ∧ w'.cell? ⟨NN, 3, none⟩ = some (.string so1))) (by kernel_rfl) ⟨e0, e1, e2, e3⟩ (fun hHeld => ?_)
                refine wpAnyH_take (i := 0) (v := ?vz6_0) rfl (by kernel_rfl) (by kernel_rfl) (by kernel_rfl) (fun _ _ _ h => h) (Or.inl ⟨by rfl, ?yz6_0⟩) (by assumption) ?rz6_0
                case yz6_0 =>
                  intro w hSw
                  (try dsimp only at hSw)
                  go_simp
                  first | done | with_reducible rfl
                try simp only [Act.put, List.getElem_toArray, List.getElem_cons_zero, List.setIfInBounds_toArray, List.set_cons_zero, List.set_cons_succ]
                refine wpAnyH_take (i := 1) (v := ?vz6_1) rfl (by kernel_rfl) (by kernel_rfl) (by kernel_rfl) (fun _ _ _ h => h) (Or.inl ⟨by rfl, ?yz6_1⟩) (by assumption) ?rz6_1
                case yz6_1 =>
                  intro w hSw
                  (try dsimp only at hSw)
                  go_simp
                  first | done | with_reducible rfl
                try simp only [Act.put, List.getElem_toArray, List.getElem_cons_zero, List.getElem_cons_succ, List.setIfInBounds_toArray, List.set_cons_zero, List.set_cons_succ]
                refine wpAnyH_take (i := 2) (v := ?vz6_2) rfl (by kernel_rfl) (by kernel_rfl) (by kernel_rfl) (fun _ _ _ h => h) (Or.inl ⟨by rfl, ?yz6_2⟩) (by assumption) ?rz6_2
                case yz6_2 =>
                  intro w hSw
                  (try dsimp only at hSw)
                  go_simp
                  first | done | with_reducible rfl
                try simp only [Act.put, List.getElem_toArray, List.getElem_cons_zero, List.getElem_cons_succ, List.setIfInBounds_toArray, List.set_cons_zero, List.set_cons_succ]
                have HBY := Lib.hid (show Below w.heap.size w W12.drew from HB12.out.drew)
                have HNY := Lib.hid (show W12.drew.heap[NN]? = _ from HN12.out)
                have HZY := Lib.hid (show W12.drew.heap[w.heap.size]? = _ from HZ12.out)
                refine wpAnyH_take (i := 3) (v := undef) rfl (by kernel_rfl) (by kernel_rfl) (by kernel_rfl) (fun _ _ _ h => h) (Or.inr ⟨by rfl, rfl⟩) (by assumption) ?rz6_3
                try simp only [Act.put, List.getElem_toArray, List.getElem_cons_zero, List.getElem_cons_succ, List.setIfInBounds_toArray, List.set_cons_zero, List.set_cons_succ]
                refine wpAnyH_take (i := 4) (v := undef) rfl (by kernel_rfl) (by kernel_rfl) (by kernel_rfl) (fun _ _ _ h => h) (Or.inr ⟨by rfl, rfl⟩) (by assumption) ?rz6_4
                try simp only [Act.put, List.getElem_toArray, List.getElem_cons_zero, List.getElem_cons_succ, List.setIfInBounds_toArray, List.set_cons_zero, List.set_cons_succ]
                refine wpAnyH_take (i := 5) (v := ?vz6_5) rfl (by kernel_rfl) (by kernel_rfl) (by kernel_rfl) (fun _ _ _ h => h) (Or.inl ⟨by rfl, ?yz6_5⟩) (by assumption) ?rz6_5
                case yz6_5 =>
                  intro w hSw
                  (try dsimp only at hSw)
                  go_simp
                  first | done | with_reducible rfl
                try simp only [Act.put, List.getElem_toArray, List.getElem_cons_zero, List.getElem_cons_succ, List.setIfInBounds_toArray, List.set_cons_zero, List.set_cons_succ]
                refine wpAnyH_ready (rs := [6]) (by kernel_rfl) (by simp) ?_
                refine AllReadyH.cons rfl (fun K hK => ?_) AllReadyH.nil
                refine wp_store_mid 35 (.tmp 2) (.tmp 65) rfl w.heap.size 0 #[.int .i64 (k : Int), .string g, .string so0, .string so1] rfl rfl (fun j hj => there4 HZY.out hj) (by kernel_rfl) (by simp [Value.oneCell']) ?_
                have hst := store4 HZY.out (.int .i64 (k : Int)) (.string g) (.string so0) (.string so1)
                obtain ⟨w7, hw7⟩ : ∃ w7, World.setCells W12.drew w.heap.size 0 [.int .i64 (k : Int), .string g, .string so0, .string so1] = w7 := ⟨_, rfl⟩
                rw [show (#[Value.int .i64 (k : Int), .string g, .string so0, .string so1] : Array Value).toList = [.int .i64 (k : Int), .string g, .string so0, .string so1] from rfl, hw7]
                rw [hw7] at hst
                have HST7 := Lib.hid hst.1
                have hn7 := (hst.2 NN (by have := HNW.out; omega)).trans HNY.out
                have z0 := cell_of_row _ _ 0 _ _ _ hn7
                have z1 := cell_of_row _ _ 1 _ _ _ hn7
                have z2 := cell_of_row _ _ 2 _ _ _ hn7
                have z3 := cell_of_row _ _ 3 _ _ _ hn7
                have hbz : Below w.heap.size w w7 := by rw [← hw7]; exact HBY.out.trans (store4_below _ _ _ _ _ (Nat.le_refl _))
                have HBZ := Lib.hid hbz
                clear hst hw7 hn7 hbz
                refine hK.out _ _ ⟨z0, z1, z2, z3⟩ (fun hHeld => ?_)
                clear hK K
                try simp only [Act.put, List.getElem_toArray, List.getElem_cons_zero, List.getElem_cons_succ]
                refine wpAnyH_take (i := 7) (v := ?vz6_7) rfl (by kernel_rfl) (by kernel_rfl) (by kernel_rfl) (fun _ _ _ h => h) (Or.inl ⟨by rfl, ?yz6_7⟩) (by assumption) ?rz6_7
                case yz6_7 =>
                  intro w hSw
                  (try dsimp only at hSw)
                  go_simp
                  first | done | with_reducible rfl
                try simp only [Act.put, List.getElem_toArray, List.getElem_cons_zero, List.getElem_cons_succ, List.setIfInBounds_toArray, List.set_cons_zero, List.set_cons_succ]
                refine wpAnyH_done (by kernel_rfl) ?_ _
                go_wp2_with fail
                have hfin : ReadPost RR w (.returned (.tuple #[.agg #[.int .i64 (k : Int), .string g, .string so0, .string so1], .bool false])) w7 := ⟨⟨k, g, so0, so1⟩, false, rfl, by rw [HR.out]; try rfl, HBZ.out⟩
                exact bodyPost_ret (results_ct2 rfl _ _ _ _ _ (0, 0) _ (.bool false) rfl rfl HST7.out Tryd.underlying35 rfl (by kernel_rfl)) rfl hfin
              | false =>
                have ng2 : 2 < n := by have := HEN.out; omega
                have ng3 : 3 < n := by have := HEN.out; omega
                have cw := HW2.out w7 HB7.out
                go_wp2_with fail
                refine (HU0.out w7).mono ?_
                rintro e w8 ⟨rfl, hb⟩
                have hnb := (hb.block NN (Array.getElem?_eq_some_iff.1 HN7.out).1).trans HN7.out
                have hzb := (hb.block w.heap.size (Array.getElem?_eq_some_iff.1 HZ7.out).1).trans HZ7.out
                have ef := cell_of_row _ _ 2 _ _ _ hnb
                have ff := frozen_of_row _ _ 2 _ _ hnb
                simp only [List.getElem?_toArray, List.getElem?_cons_zero, List.getElem?_cons_succ] at ef
                obtain ⟨W9, hc⟩ : ∃ W, World.setCell w8 ⟨NN, 2, none⟩ (.string so0) = W := ⟨_, rfl⟩
                have HB9 := Lib.hid (show Below w.heap.size w W9 by rw [← hc]; exact (HB7.out.trans (hb.mono HB7.out.size)).setCell (p := ⟨NN, 2, none⟩) (by have := HNW.out; show w.heap.size ≤ NN; omega) _)
                have HN9 := Lib.hid (show W9.heap[NN]? = some (.cells #[.int .i64 (k : Int), .string g, .string so0, .string (ByteArray.mk #[])] 35 (0, 0)) by rw [← hc]; exact heap_setCell_same w8 NN 2 _ _ (.string so0) hnb)
                have HZ9 := Lib.hid (show W9.heap[w.heap.size]? = some (.cells #[.int .i64 0, .string ⟨#[]⟩, .string ⟨#[]⟩, .string ⟨#[]⟩] 35 (0, 0)) by rw [← hc]; exact (heap_setCell_other w8 ⟨NN, 2, none⟩ w.heap.size _ (by have := HNW.out; show w.heap.size ≠ NN; omega)).trans hzb)
                have HC0 := Lib.hid hc
                clear hb hnb hzb hc cw
                go_upto_region 11 with fail
                rw [HC0.out]
                clear ef ff
                go_wp2_with fail
                refine (rtexts_any k W9 (by omega)).mono ?_
                rintro e w10 ⟨rfl, hb⟩
                have HB10 := Lib.hid (HB9.out.trans (hb.mono HB9.out.size))
                have HN10 := Lib.hid ((hb.block NN (Array.getElem?_eq_some_iff.1 HN9.out).1).trans HN9.out)
                have HZ10 := Lib.hid ((hb.block w.heap.size (Array.getElem?_eq_some_iff.1 HZ9.out).1).trans HZ9.out)
                clear hb
                rw [HTX.out]
                have cw := HW3.out w10 HB10.out
                go_wp2_with fail
                refine (HU1.out w10).mono ?_
                rintro e w11 ⟨rfl, hb⟩
                have hnb := (hb.block NN (Array.getElem?_eq_some_iff.1 HN10.out).1).trans HN10.out
                have hzb := (hb.block w.heap.size (Array.getElem?_eq_some_iff.1 HZ10.out).1).trans HZ10.out
                have ef := cell_of_row _ _ 3 _ _ _ hnb
                have ff := frozen_of_row _ _ 3 _ _ hnb
                simp only [List.getElem?_toArray, List.getElem?_cons_zero, List.getElem?_cons_succ] at ef
                obtain ⟨W12, hc⟩ : ∃ W, World.setCell w11 ⟨NN, 3, none⟩ (.string so1) = W := ⟨_, rfl⟩
                have HB12 := Lib.hid (show Below w.heap.size w W12 by rw [← hc]; exact (HB10.out.trans (hb.mono HB10.out.size)).setCell (p := ⟨NN, 3, none⟩) (by have := HNW.out; show w.heap.size ≤ NN; omega) _)
                have HN12 := Lib.hid (show W12.heap[NN]? = some (.cells #[.int .i64 (k : Int), .string g, .string so0, .string so1] 35 (0, 0)) by rw [← hc]; exact heap_setCell_same w11 NN 3 _ _ (.string so1) hnb)
                have HZ12 := Lib.hid (show W12.heap[w.heap.size]? = some (.cells #[.int .i64 0, .string ⟨#[]⟩, .string ⟨#[]⟩, .string ⟨#[]⟩] 35 (0, 0)) by rw [← hc]; exact (heap_setCell_other w11 ⟨NN, 3, none⟩ w.heap.size _ (by have := HNW.out; show w.heap.size ≠ NN; omega)).trans hzb)
                have HC1 := Lib.hid hc
                clear hb hnb hzb hc cw
                go_upto_region 15 with fail
                rw [HC1.out]
                clear ef ff
                have HR := Lib.hid (show RR = none from HREAD.out.trans (readU_bad (j := 0) (by rw [HTN.out]; omega) HQ0.out HUU0.out.symm))
                have e0 := cell_of_row _ _ 0 _ _ _ HN12.out
                have e1 := cell_of_row _ _ 1 _ _ _ HN12.out
                have e2 := cell_of_row _ _ 2 _ _ _ HN12.out
                have e3 := cell_of_row _ _ 3 _ _ _ HN12.out
                simp only [List.getElem?_toArray, List.getElem?_cons_zero, List.getElem?_cons_succ] at e0 e1 e2 e3
                refine wp_region_held_drew (S := (fun w' => w'.cell? ⟨NN, 0, none⟩ = some (.int .i64 (k : Int)) ∧ w'.cell? ⟨NN, 1, none⟩ = some (.string g) ∧ w'.cell? ⟨NN, 2, none⟩ = some (.string so0) ∧ w'.cell? ⟨NN, 3, none⟩ = some (.string so1))) (by kernel_rfl) ⟨e0, e1, e2, e3⟩ (fun hHeld => ?_)
                refine wpAnyH_take (i := 0) (v := ?vz7_0) rfl (by kernel_rfl) (by kernel_rfl) (by kernel_rfl) (fun _ _ _ h => h) (Or.inl ⟨by rfl, ?yz7_0⟩) (by assumption) ?rz7_0
                case yz7_0 =>
                  intro w hSw
                  (try dsimp only at hSw)
                  go_simp
                  first | done | with_reducible rfl
                try simp only [Act.put, List.getElem_toArray, List.getElem_cons_zero, List.setIfInBounds_toArray, List.set_cons_zero, List.set_cons_succ]
                refine wpAnyH_take (i := 1) (v := ?vz7_1) rfl (by kernel_rfl) (by kernel_rfl) (by kernel_rfl) (fun _ _ _ h => h) (Or.inl ⟨by rfl, ?yz7_1⟩) (by assumption) ?rz7_1
                case yz7_1 =>
                  intro w hSw
                  (try dsimp only at hSw)
                  go_simp
                  first | done | with_reducible rfl
                try simp only [Act.put, List.getElem_toArray, List.getElem_cons_zero, List.getElem_cons_succ, List.setIfInBounds_toArray, List.set_cons_zero, List.set_cons_succ]
                refine wpAnyH_take (i := 2) (v := ?vz7_2) rfl (by kernel_rfl) (by kernel_rfl) (by kernel_rfl) (fun _ _ _ h => h) (Or.inl ⟨by rfl, ?yz7_2⟩) (by assumption) ?rz7_2
                case yz7_2 =>
                  intro w hSw
                  (try dsimp only at hSw)
                  go_simp
                  first | done | with_reducible rfl
                try simp only [Act.put, List.getElem_toArray, List.getElem_cons_zero, List.getElem_cons_succ, List.setIfInBounds_toArray, List.set_cons_zero, List.set_cons_succ]
                have HBY := Lib.hid (show Below w.heap.size w W12.drew from HB12.out.drew)
                have HNY := Lib.hid (show W12.drew.heap[NN]? = _ from HN12.out)
                have HZY := Lib.hid (show W12.drew.heap[w.heap.size]? = _ from HZ12.out)
                refine wpAnyH_take (i := 3) (v := undef) rfl (by kernel_rfl) (by kernel_rfl) (by kernel_rfl) (fun _ _ _ h => h) (Or.inr ⟨by rfl, rfl⟩) (by assumption) ?rz7_3
                try simp only [Act.put, List.getElem_toArray, List.getElem_cons_zero, List.getElem_cons_succ, List.setIfInBounds_toArray, List.set_cons_zero, List.set_cons_succ]
                refine wpAnyH_take (i := 4) (v := undef) rfl (by kernel_rfl) (by kernel_rfl) (by kernel_rfl) (fun _ _ _ h => h) (Or.inr ⟨by rfl, rfl⟩) (by assumption) ?rz7_4
                try simp only [Act.put, List.getElem_toArray, List.getElem_cons_zero, List.getElem_cons_succ, List.setIfInBounds_toArray, List.set_cons_zero, List.set_cons_succ]
                refine wpAnyH_take (i := 5) (v := ?vz7_5) rfl (by kernel_rfl) (by kernel_rfl) (by kernel_rfl) (fun _ _ _ h => h) (Or.inl ⟨by rfl, ?yz7_5⟩) (by assumption) ?rz7_5
                case yz7_5 =>
                  intro w hSw
                  (try dsimp only at hSw)
                  go_simp
                  first | done | with_reducible rfl
                try simp only [Act.put, List.getElem_toArray, List.getElem_cons_zero, List.getElem_cons_succ, List.setIfInBounds_toArray, List.set_cons_zero, List.set_cons_succ]
                refine wpAnyH_ready (rs := [6]) (by kernel_rfl) (by simp) ?_
                refine AllReadyH.cons rfl (fun K hK => ?_) AllReadyH.nil
                refine wp_store_mid 35 (.tmp 2) (.tmp 65) rfl w.heap.size 0 #[.int .i64 (k : Int), .string g, .string so0, .string so1] rfl rfl (fun j hj => there4 HZY.out hj) (by kernel_rfl) (by simp [Value.oneCell']) ?_
                have hst := store4 HZY.out (.int .i64 (k : Int)) (.string g) (.string so0) (.string so1)
                obtain ⟨w7, hw7⟩ : ∃ w7, World.setCells W12.drew w.heap.size 0 [.int .i64 (k : Int), .string g, .string so0, .string so1] = w7 := ⟨_, rfl⟩
                rw [show (#[Value.int .i64 (k : Int), .string g, .string so0, .string so1] : Array Value).toList = [.int .i64 (k : Int), .string g, .string so0, .string so1] from rfl, hw7]
                rw [hw7] at hst
                have HST7 := Lib.hid hst.1
                have hn7 := (hst.2 NN (by have := HNW.out; omega)).trans HNY.out
                have z0 := cell_of_row _ _ 0 _ _ _ hn7
                have z1 := cell_of_row _ _ 1 _ _ _ hn7
                have z2 := cell_of_row _ _ 2 _ _ _ hn7
                have z3 := cell_of_row _ _ 3 _ _ _ hn7
                have hbz : Below w.heap.size w w7 := by rw [← hw7]; exact HBY.out.trans (store4_below _ _ _ _ _ (Nat.le_refl _))
                have HBZ := Lib.hid hbz
                clear hst hw7 hn7 hbz
                refine hK.out _ _ ⟨z0, z1, z2, z3⟩ (fun hHeld => ?_)
                clear hK K
                try simp only [Act.put, List.getElem_toArray, List.getElem_cons_zero, List.getElem_cons_succ]
                refine wpAnyH_take (i := 7) (v := ?vz7_7) rfl (by kernel_rfl) (by kernel_rfl) (by kernel_rfl) (fun _ _ _ h => h) (Or.inl ⟨by rfl, ?yz7_7⟩) (by assumption) ?rz7_7
                case yz7_7 =>
                  intro w hSw
                  (try dsimp only at hSw)
                  go_simp
                  first | done | with_reducible rfl
                try simp only [Act.put, List.getElem_toArray, List.getElem_cons_zero, List.getElem_cons_succ, List.setIfInBounds_toArray, List.set_cons_zero, List.set_cons_succ]
                refine wpAnyH_done (by kernel_rfl) ?_ _
                go_wp2_with fail
                have hfin : ReadPost RR w (.returned (.tuple #[.agg #[.int .i64 (k : Int), .string g, .string so0, .string so1], .bool false])) w7 := ⟨⟨k, g, so0, so1⟩, false, rfl, by rw [HR.out]; try rfl, HBZ.out⟩
                exact bodyPost_ret (results_ct2 rfl _ _ _ _ _ (0, 0) _ (.bool false) rfl rfl HST7.out Tryd.underlying35 rfl (by kernel_rfl)) rfl hfin
        · have wT : IntKind.i64.wrap (2 + (T : Int)) = 2 + (T : Int) := IntWalk.i64_in _ (by omega)
          have en1 : ((n : Int) != 2 + (T : Int)) = true := by rw [bne_iff_ne]; omega
          have HEN := Lib.hid en
          clear en
          go_upto_region 4 with fail
          refine wp_region_held_drew (S := (fun w' => w'.cell? ⟨gq, oq, none⟩ = some (.string s0))) (by kernel_rfl) c0r (fun hHeld => ?_)
          refine wpAnyH_take (i := 1) (v := ?vz9_1) rfl (by kernel_rfl) (by kernel_rfl) (by kernel_rfl) (fun _ _ _ h => h) (Or.inl ⟨by rfl, ?yz9_1⟩) (by assumption) ?rz9_1
          case yz9_1 =>
            intro w hSw
            (try dsimp only at hSw)
            go_simp
            first | done | with_reducible rfl
          try simp only [Act.put, List.getElem_toArray, List.getElem_cons_zero, List.getElem_cons_succ, List.setIfInBounds_toArray, List.set_cons_zero, List.set_cons_succ]
          refine wpAnyH_take (i := 4) (v := ?vz9_4) rfl (by kernel_rfl) (by kernel_rfl) (by kernel_rfl) (fun _ _ _ h => h) (Or.inl ⟨by rfl, ?yz9_4⟩) (by assumption) ?rz9_4
          case yz9_4 =>
            intro w hSw
            (try dsimp only at hSw)
            go_simp
            first | done | with_reducible rfl
          try simp only [Act.put, List.getElem_toArray, List.getElem_cons_zero, List.getElem_cons_succ, List.setIfInBounds_toArray, List.set_cons_zero, List.set_cons_succ]
          refine wpAnyH_take (i := 5) (v := ?vz9_5) rfl (by kernel_rfl) (by kernel_rfl) (by kernel_rfl) (fun _ _ _ h => h) (Or.inl ⟨by rfl, ?yz9_5⟩) (by assumption) ?rz9_5
          case yz9_5 =>
            intro w hSw
            (try dsimp only at hSw)
            go_simp
            first | done | with_reducible rfl
          try simp only [Act.put, List.getElem_toArray, List.getElem_cons_zero, List.getElem_cons_succ, List.setIfInBounds_toArray, List.set_cons_zero, List.set_cons_succ]
          refine wpAnyH_take (i := 6) (v := ?vz9_6) rfl (by kernel_rfl) (by kernel_rfl) (by kernel_rfl) (fun _ _ _ h => h) (Or.inl ⟨by rfl, ?yz9_6⟩) (by assumption) ?rz9_6
          case yz9_6 =>
            intro w hSw
            (try dsimp only at hSw)
            go_simp
            first | done | with_reducible rfl
          try simp only [Act.put, List.getElem_toArray, List.getElem_cons_zero, List.getElem_cons_succ, List.setIfInBounds_toArray, List.set_cons_zero, List.set_cons_succ]
          refine wpAnyH_ready (rs := [0]) (by kernel_rfl) (by simp) ?_
          refine AllReadyH.cons rfl (fun K hK => ?_) AllReadyH.nil
          go_simp
          refine (rwords_any _).mono ?_
          rintro e w4 ⟨rfl, hw4⟩
          have hb4 : Below wr.heap.size wr w4 := by rw [hw4]; exact (Below.refl _ _).drew.alloc (Nat.le_refl _) _
          have HB4 := Lib.hid (HBR.out.trans (hb4.mono HBR.out.size))
          have e4 : w4.cell? ⟨wr.heap.size, k, none⟩ = some (.string s0) := by rw [hw4, ← HWD.out]; exact word_at wr.drew _ (by omega)
          have HZ4 := Lib.hid ((hb4.block w.heap.size hBr).trans HZR.out)
          have hs4 := hb4.size
          have f0 := C0.out w4 HB4.out
          have HW4 := Lib.hid hw4
          clear hw4
          refine hK.out _ _ f0 (fun hHeld => ?_)
          clear hK K
          try simp only [Act.put, List.getElem_toArray, List.getElem_cons_zero, List.getElem_cons_succ, List.setIfInBounds_toArray, List.set_cons_zero, List.set_cons_succ]
          have hHeld2 : (fun w' : World => w'.cell? ⟨gq, oq, none⟩ = some (.string s0) ∧ w'.cell? ⟨wr.heap.size, k, none⟩ = some (.string s0)) w4 := ⟨f0, e4⟩
          refine wpAnyH_stronger (S' := fun w' => w'.cell? ⟨gq, oq, none⟩ = some (.string s0) ∧ w'.cell? ⟨wr.heap.size, k, none⟩ = some (.string s0)) (fun w h => h.1) _ _ _ _ ?_
          clear hHeld
          refine wpAnyH_take (i := 2) (v := ?vz9_2) rfl (by kernel_rfl) (by kernel_rfl) (by kernel_rfl) (fun _ _ _ h => h) (Or.inl ⟨by rfl, ?yz9_2⟩) (by assumption) ?rz9_2
          case yz9_2 =>
            intro w hSw
            (try dsimp only at hSw)
            go_simp
            first | done | with_reducible rfl
          try simp only [Act.put, List.getElem_toArray, List.getElem_cons_zero, List.getElem_cons_succ, List.setIfInBounds_toArray, List.set_cons_zero, List.set_cons_succ]
          refine wpAnyH_take (i := 3) (v := ?vz9_3) rfl (by kernel_rfl) (by kernel_rfl) (by kernel_rfl) (fun _ _ _ h => h) (Or.inl ⟨by rfl, ?yz9_3⟩) (by assumption) ?rz9_3
          case yz9_3 =>
            intro w hSw
            (try dsimp only at hSw)
            go_simp
            first | done | with_reducible rfl
          try simp only [Act.put, List.getElem_toArray, List.getElem_cons_zero, List.getElem_cons_succ, List.setIfInBounds_toArray, List.set_cons_zero, List.set_cons_succ]
          refine wpAnyH_take (i := 7) (v := ?vz9_7) rfl (by kernel_rfl) (by kernel_rfl) (by kernel_rfl) (fun _ _ _ h => h) (Or.inl ⟨by rfl, ?yz9_7⟩) (by assumption) ?rz9_7
          case yz9_7 =>
            intro w hSw
            (try dsimp only at hSw)
            go_simp
            first | done | with_reducible rfl
          try simp only [Act.put, List.getElem_toArray, List.getElem_cons_zero, List.getElem_cons_succ, List.setIfInBounds_toArray, List.set_cons_zero, List.set_cons_succ]
          refine wpAnyH_take (i := 8) (v := ?vz9_8) rfl (by kernel_rfl) (by kernel_rfl) (by kernel_rfl) (fun _ _ _ h => h) (Or.inl ⟨by rfl, ?yz9_8⟩) (by assumption) ?rz9_8
          case yz9_8 =>
            intro w hSw
            (try dsimp only at hSw)
            go_simp
            first | done | with_reducible rfl
          try simp only [Act.put, List.getElem_toArray, List.getElem_cons_zero, List.getElem_cons_succ, List.setIfInBounds_toArray, List.set_cons_zero, List.set_cons_succ]
          refine wpAnyH_take (i := 9) (v := ?vz9_9) rfl (by kernel_rfl) (by kernel_rfl) (by kernel_rfl) (fun _ _ _ h => h) (Or.inl ⟨by rfl, ?yz9_9⟩) (by assumption) ?rz9_9
          case yz9_9 =>
            intro w hSw
            (try dsimp only at hSw)
            go_simp
            first | done | with_reducible rfl
          try simp only [Act.put, List.getElem_toArray, List.getElem_cons_zero, List.getElem_cons_succ, List.setIfInBounds_toArray, List.set_cons_zero, List.set_cons_succ]
          refine wpAnyH_take (i := 10) (v := ?vz9_10) rfl (by kernel_rfl) (by kernel_rfl) (by kernel_rfl) (fun _ _ _ h => h) (Or.inl ⟨by rfl, ?yz9_10⟩) (by assumption) ?rz9_10
          case yz9_10 =>
            intro w hSw
            (try dsimp only at hSw)
            go_simp
            first | done | with_reducible rfl
          try simp only [Act.put, List.getElem_toArray, List.getElem_cons_zero, List.getElem_cons_succ, List.setIfInBounds_toArray, List.set_cons_zero, List.set_cons_succ]
          refine wpAnyH_take (i := 11) (v := ?vz9_11) rfl (by kernel_rfl) (by kernel_rfl) (by kernel_rfl) (fun _ _ _ h => h) (Or.inl ⟨by rfl, ?yz9_11⟩) (by assumption) ?rz9_11
          case yz9_11 =>
            intro w hSw
            (try dsimp only at hSw)
            go_simp
            first | done | with_reducible rfl
          try simp only [Act.put, List.getElem_toArray, List.getElem_cons_zero, List.getElem_cons_succ, List.setIfInBounds_toArray, List.set_cons_zero, List.set_cons_succ]
          refine wpAnyH_ready (rs := [12]) (by kernel_rfl) (by simp) ?_
          refine AllReadyH.cons rfl (fun K hK => ?_) AllReadyH.nil
          go_simp
          refine (rtexts_any k _ (by omega)).mono ?_
          rintro e w5 ⟨rfl, hb5'⟩
          have hb5 : Below w4.heap.size w4 w5 := hb5'
          have HB5 := Lib.hid (HB4.out.trans (hb5.mono HB4.out.size))
          have HZ5 := Lib.hid ((hb5.block w.heap.size (by omega)).trans HZ4.out)
          have hs5 := hb5.size
          rw [HTX.out]
          refine hK.out _ _ ⟨C0.out w5 HB5.out, (hb5.cell (p := ⟨wr.heap.size, k, none⟩) (by rw [HW4.out]; show wr.heap.size < (wr.drew.alloc _).heap.size; rw [World.size_alloc]; exact Nat.lt_succ_self _)).trans e4⟩ (fun hHeld => ?_)
          clear hK K hHeld2 hb5 hb5' e4
          try simp only [Act.put, List.getElem_toArray, List.getElem_cons_zero, List.getElem_cons_succ, List.setIfInBounds_toArray, List.set_cons_zero, List.set_cons_succ]
          refine wpAnyH_take (i := 13) (v := ?vz9_13) rfl (by kernel_rfl) (by kernel_rfl) (by kernel_rfl) (fun _ _ _ h => h) (Or.inl ⟨by rfl, ?yz9_13⟩) (by assumption) ?rz9_13
          case yz9_13 =>
            intro w hSw
            (try dsimp only at hSw)
            go_simp
            first | done | with_reducible rfl
          try simp only [Act.put, List.getElem_toArray, List.getElem_cons_zero, List.getElem_cons_succ, List.setIfInBounds_toArray, List.set_cons_zero, List.set_cons_succ]
          refine wpAnyH_take (i := 14) (v := ?vz9_14) rfl (by kernel_rfl) (by kernel_rfl) (by kernel_rfl) (fun _ _ _ h => h) (Or.inl ⟨by rfl, ?yz9_14⟩) (by assumption) ?rz9_14
          case yz9_14 =>
            intro w hSw
            (try dsimp only at hSw)
            go_simp
            first | done | with_reducible rfl
          try simp only [Act.put, List.getElem_toArray, List.getElem_cons_zero, List.getElem_cons_succ, List.setIfInBounds_toArray, List.set_cons_zero, List.set_cons_succ]
          refine wpAnyH_take (i := 15) (v := ?vz9_15) rfl (by kernel_rfl) (by kernel_rfl) (by kernel_rfl) (fun _ _ _ h => h) (Or.inl ⟨by rfl, ?yz9_15⟩) (by assumption) ?rz9_15
          case yz9_15 =>
            intro w hSw
            (try dsimp only at hSw)
            go_simp
            first | done | with_reducible rfl
          try simp only [Act.put, List.getElem_toArray, List.getElem_cons_zero, List.getElem_cons_succ, List.setIfInBounds_toArray, List.set_cons_zero, List.set_cons_succ]
          refine wpAnyH_done (by kernel_rfl) ?_ _
          clear hHeld hs4 hs5 hb4 f0 c0r hq1 hq2
          go_wp2_with fail
          go_roundw
          case rel =>
            refine ⟨k + 1, by omega, by omega, rfl, by go_num, ?_, HZ5.out, HB5.out⟩
            intro j hj1 hjk
            by_cases hjj : j < k
            · exact HNO.out j hj1 hjj
            · obtain rfl : j = k := by omega
              exact fun h => HEN.out (by have h2 := h.2; rw [HTN.out] at h2; have h3 := HN0.out; omega)
          case measure => simp [intOf]; omega
      · have hne0 : wd ≠ s0 := by
          intro e
          apply ek
          have := congrArg (fun b : ByteArray => b.data.toList) (hwd.trans (e.trans HS0.out.symm))
          simp only [mkB_data] at this
          rw [← this]
          exact kind_word hk1 (by omega)
        have HWD := Lib.hid hwd
        have hne1 : wd.toList ≠ s0.toList := fun e => hne0 (ba_ext (by rw [← ByteArray.toList_eq, ← ByteArray.toList_eq]; exact e))
        have hq1 : (wd.toList == s0.toList) = false := beq_eq_false_iff_ne.2 hne1
        have hq2 : (wd.toList != s0.toList) = true := bne_iff_ne.2 hne1
        have HEK := Lib.hid ek
        clear hwd hne0 hne1 ek
        go_upto_region 4 with fail
        refine wp_region_held_drew (S := (fun w' => w'.cell? ⟨gq, oq, none⟩ = some (.string s0))) (by kernel_rfl) c0r (fun hHeld => ?_)
        refine wpAnyH_take (i := 1) (v := ?vz10_1) rfl (by kernel_rfl) (by kernel_rfl) (by kernel_rfl) (fun _ _ _ h => h) (Or.inl ⟨by rfl, ?yz10_1⟩) (by assumption) ?rz10_1
        case yz10_1 =>
          intro w hSw
          (try dsimp only at hSw)
          go_simp
          first | done | with_reducible rfl
        try simp only [Act.put, List.getElem_toArray, List.getElem_cons_zero, List.getElem_cons_succ, List.setIfInBounds_toArray, List.set_cons_zero, List.set_cons_succ]
        refine wpAnyH_take (i := 4) (v := ?vz10_4) rfl (by kernel_rfl) (by kernel_rfl) (by kernel_rfl) (fun _ _ _ h => h) (Or.inl ⟨by rfl, ?yz10_4⟩) (by assumption) ?rz10_4
        case yz10_4 =>
          intro w hSw
          (try dsimp only at hSw)
          go_simp
          first | done | with_reducible rfl
        try simp only [Act.put, List.getElem_toArray, List.getElem_cons_zero, List.getElem_cons_succ, List.setIfInBounds_toArray, List.set_cons_zero, List.set_cons_succ]
        refine wpAnyH_take (i := 5) (v := ?vz10_5) rfl (by kernel_rfl) (by kernel_rfl) (by kernel_rfl) (fun _ _ _ h => h) (Or.inl ⟨by rfl, ?yz10_5⟩) (by assumption) ?rz10_5
        case yz10_5 =>
          intro w hSw
          (try dsimp only at hSw)
          go_simp
          first | done | with_reducible rfl
        try simp only [Act.put, List.getElem_toArray, List.getElem_cons_zero, List.getElem_cons_succ, List.setIfInBounds_toArray, List.set_cons_zero, List.set_cons_succ]
        refine wpAnyH_take (i := 6) (v := ?vz10_6) rfl (by kernel_rfl) (by kernel_rfl) (by kernel_rfl) (fun _ _ _ h => h) (Or.inl ⟨by rfl, ?yz10_6⟩) (by assumption) ?rz10_6
        case yz10_6 =>
          intro w hSw
          (try dsimp only at hSw)
          go_simp
          first | done | with_reducible rfl
        try simp only [Act.put, List.getElem_toArray, List.getElem_cons_zero, List.getElem_cons_succ, List.setIfInBounds_toArray, List.set_cons_zero, List.set_cons_succ]
        refine wpAnyH_ready (rs := [0]) (by kernel_rfl) (by simp) ?_
        refine AllReadyH.cons rfl (fun K hK => ?_) AllReadyH.nil
        go_simp
        refine (rwords_any _).mono ?_
        rintro e w4 ⟨rfl, hw4⟩
        have hb4 : Below wr.heap.size wr w4 := by rw [hw4]; exact (Below.refl _ _).drew.alloc (Nat.le_refl _) _
        have HB4 := Lib.hid (HBR.out.trans (hb4.mono HBR.out.size))
        have e4 : w4.cell? ⟨wr.heap.size, k, none⟩ = some (.string wd) := by rw [hw4, ← HWD.out]; exact word_at wr.drew _ (by omega)
        have HZ4 := Lib.hid ((hb4.block w.heap.size hBr).trans HZR.out)
        have hs4 := hb4.size
        have f0 := C0.out w4 HB4.out
        have HW4 := Lib.hid hw4
        clear hw4
        refine hK.out _ _ f0 (fun hHeld => ?_)
        clear hK K
        try simp only [Act.put, List.getElem_toArray, List.getElem_cons_zero, List.getElem_cons_succ, List.setIfInBounds_toArray, List.set_cons_zero, List.set_cons_succ]
        have hHeld2 : (fun w' : World => w'.cell? ⟨gq, oq, none⟩ = some (.string s0) ∧ w'.cell? ⟨wr.heap.size, k, none⟩ = some (.string wd)) w4 := ⟨f0, e4⟩
        refine wpAnyH_stronger (S' := fun w' => w'.cell? ⟨gq, oq, none⟩ = some (.string s0) ∧ w'.cell? ⟨wr.heap.size, k, none⟩ = some (.string wd)) (fun w h => h.1) _ _ _ _ ?_
        clear hHeld
        refine wpAnyH_take (i := 2) (v := ?vz10_2) rfl (by kernel_rfl) (by kernel_rfl) (by kernel_rfl) (fun _ _ _ h => h) (Or.inl ⟨by rfl, ?yz10_2⟩) (by assumption) ?rz10_2
        case yz10_2 =>
          intro w hSw
          (try dsimp only at hSw)
          go_simp
          first | done | with_reducible rfl
        try simp only [Act.put, List.getElem_toArray, List.getElem_cons_zero, List.getElem_cons_succ, List.setIfInBounds_toArray, List.set_cons_zero, List.set_cons_succ]
        refine wpAnyH_take (i := 3) (v := ?vz10_3) rfl (by kernel_rfl) (by kernel_rfl) (by kernel_rfl) (fun _ _ _ h => h) (Or.inl ⟨by rfl, ?yz10_3⟩) (by assumption) ?rz10_3
        case yz10_3 =>
          intro w hSw
          (try dsimp only at hSw)
          go_simp
          first | done | with_reducible rfl
        try simp only [Act.put, List.getElem_toArray, List.getElem_cons_zero, List.getElem_cons_succ, List.setIfInBounds_toArray, List.set_cons_zero, List.set_cons_succ]
        refine wpAnyH_take (i := 7) (v := ?vz10_7) rfl (by kernel_rfl) (by kernel_rfl) (by kernel_rfl) (fun _ _ _ h => h) (Or.inl ⟨by rfl, ?yz10_7⟩) (by assumption) ?rz10_7
        case yz10_7 =>
          intro w hSw
          (try dsimp only at hSw)
          go_simp
          first | done | with_reducible rfl
        try simp only [Act.put, List.getElem_toArray, List.getElem_cons_zero, List.getElem_cons_succ, List.setIfInBounds_toArray, List.set_cons_zero, List.set_cons_succ]
        refine wpAnyH_take (i := 8) (v := ?vz10_8) rfl (by kernel_rfl) (by kernel_rfl) (by kernel_rfl) (fun _ _ _ h => h) (Or.inl ⟨by rfl, ?yz10_8⟩) (by assumption) ?rz10_8
        case yz10_8 =>
          intro w hSw
          (try dsimp only at hSw)
          go_simp
          first | done | with_reducible rfl
        try simp only [Act.put, List.getElem_toArray, List.getElem_cons_zero, List.getElem_cons_succ, List.setIfInBounds_toArray, List.set_cons_zero, List.set_cons_succ]
        refine wpAnyH_take (i := 9) (v := undef) rfl (by kernel_rfl) (by kernel_rfl) (by kernel_rfl) (fun _ _ _ h => h) (Or.inr ⟨by rfl, rfl⟩) (by assumption) ?rz10_9
        try simp only [Act.put, List.getElem_toArray, List.getElem_cons_zero, List.getElem_cons_succ, List.setIfInBounds_toArray, List.set_cons_zero, List.set_cons_succ]
        refine wpAnyH_take (i := 10) (v := undef) rfl (by kernel_rfl) (by kernel_rfl) (by kernel_rfl) (fun _ _ _ h => h) (Or.inr ⟨by rfl, rfl⟩) (by assumption) ?rz10_10
        try simp only [Act.put, List.getElem_toArray, List.getElem_cons_zero, List.getElem_cons_succ, List.setIfInBounds_toArray, List.set_cons_zero, List.set_cons_succ]
        refine wpAnyH_take (i := 11) (v := undef) rfl (by kernel_rfl) (by kernel_rfl) (by kernel_rfl) (fun _ _ _ h => h) (Or.inr ⟨by rfl, rfl⟩) (by assumption) ?rz10_11
        try simp only [Act.put, List.getElem_toArray, List.getElem_cons_zero, List.getElem_cons_succ, List.setIfInBounds_toArray, List.set_cons_zero, List.set_cons_succ]
        refine wpAnyH_take (i := 12) (v := undef) rfl (by kernel_rfl) (by kernel_rfl) (by kernel_rfl) (fun _ _ _ h => h) (Or.inr ⟨by rfl, rfl⟩) (by assumption) ?rz10_12
        try simp only [Act.put, List.getElem_toArray, List.getElem_cons_zero, List.getElem_cons_succ, List.setIfInBounds_toArray, List.set_cons_zero, List.set_cons_succ]
        refine wpAnyH_take (i := 13) (v := undef) rfl (by kernel_rfl) (by kernel_rfl) (by kernel_rfl) (fun _ _ _ h => h) (Or.inr ⟨by rfl, rfl⟩) (by assumption) ?rz10_13
        try simp only [Act.put, List.getElem_toArray, List.getElem_cons_zero, List.getElem_cons_succ, List.setIfInBounds_toArray, List.set_cons_zero, List.set_cons_succ]
        refine wpAnyH_take (i := 14) (v := undef) rfl (by kernel_rfl) (by kernel_rfl) (by kernel_rfl) (fun _ _ _ h => h) (Or.inr ⟨by rfl, rfl⟩) (by assumption) ?rz10_14
        try simp only [Act.put, List.getElem_toArray, List.getElem_cons_zero, List.getElem_cons_succ, List.setIfInBounds_toArray, List.set_cons_zero, List.set_cons_succ]
        refine wpAnyH_take (i := 15) (v := ?vz10_15) rfl (by kernel_rfl) (by kernel_rfl) (by kernel_rfl) (fun _ _ _ h => h) (Or.inl ⟨by rfl, ?yz10_15⟩) (by assumption) ?rz10_15
        case yz10_15 =>
          intro w hSw
          (try dsimp only at hSw)
          go_simp
          first | done | with_reducible rfl
        try simp only [Act.put, List.getElem_toArray, List.getElem_cons_zero, List.getElem_cons_succ, List.setIfInBounds_toArray, List.set_cons_zero, List.set_cons_succ]
        refine wpAnyH_done (by kernel_rfl) ?_ _
        clear hHeld2 hs4 hb4 f0 c0r hq1 hq2 e4
        go_wp2_with fail
        go_roundw
        case rel =>
          refine ⟨k + 1, by omega, by omega, rfl, by go_num, ?_, HZ4.out, HB4.out⟩
          intro j hj1 hjk
          by_cases hjj : j < k
          · exact HNO.out j hj1 hjj
          · obtain rfl : j = k := by omega
            exact fun h => HEK.out h.1
        case measure => simp [intOf]; omega
    · obtain rfl : k = 6 := by omega
      have hst := store4 HZR.out (.int .i64 0) (.string ⟨#[]⟩) (.string ⟨#[]⟩) (.string ⟨#[]⟩)
      have e0 := cell_of_row _ _ 0 _ _ _ HZR.out
      have e1 := cell_of_row _ _ 1 _ _ _ HZR.out
      have e2 := cell_of_row _ _ 2 _ _ _ HZR.out
      have e3 := cell_of_row _ _ 3 _ _ _ HZR.out
      have f0 := frozen_of_row _ _ 0 _ _ HZR.out
      have f1 := frozen_of_row _ _ 1 _ _ HZR.out
      have f2 := frozen_of_row _ _ 2 _ _ HZR.out
      have f3 := frozen_of_row _ _ 3 _ _ HZR.out
      simp only [List.getElem?_toArray, List.getElem?_cons_zero, List.getElem?_cons_succ] at e0 e1 e2 e3
      have HST := Lib.hid hst.1
      have HBZ := Lib.hid (HBR.out.trans (store4_below (B := w.heap.size) (N := w.heap.size) wr (.int .i64 0) (.string ⟨#[]⟩) (.string ⟨#[]⟩) (.string ⟨#[]⟩) (Nat.le_refl _)))
      have HNIL : Hid (RR = none) := by unfold Hid; rw [← HRR.out]; exact oneU_miss HNO.out
      clear hst
      go_wp2_with fail
      have hfin : ReadPost RR w (.returned (.tuple #[.agg #[.int .i64 0, .string ⟨#[]⟩, .string ⟨#[]⟩, .string ⟨#[]⟩], .bool false])) (wr.setCells w.heap.size 0 [.int .i64 0, .string ⟨#[]⟩, .string ⟨#[]⟩, .string ⟨#[]⟩]) := ⟨⟨0, ⟨#[]⟩, ⟨#[]⟩, ⟨#[]⟩⟩, false, rfl, by rw [HNIL.out]; rfl, HBZ.out⟩
      exact bodyPost_ret (results_ct2 rfl _ _ _ _ _ (0, 0) _ (.bool false) rfl rfl HST.out Tryd.underlying35 rfl (by kernel_rfl)) rfl hfin
end Go.Proofs.YthkbpophckjdnaaDoor
