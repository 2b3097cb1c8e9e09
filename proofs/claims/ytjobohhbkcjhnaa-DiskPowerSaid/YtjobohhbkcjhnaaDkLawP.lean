/-
  The law DiskPower, walked.
-/
import Derived.Test.YtjobohhbkcjhnaaDkSide
import Derived.Deep.RegionHeld3
namespace Go.Proofs.Ytjobohhbkcjhnaa
open Go Go.RowKit Go.Shelf Go.Proofs

/-- One area with pending bytes, power for so much. -/
def dP (P : Bs) (q : Nat) (dead : Bool) : DDk := ⟨[⟨[], P.map .byte⟩], 5000, some q, dead⟩
theorem dP_new (k : Nat) (hk : k ≤ 1000) : (DDk.new 1 5000).arm (k : Int) = dP [] k false := by
  unfold DDk.arm dP DDk.new
  rw [if_neg (by decide), show (min (max (k : Int) 0) 1000000000).toNat = k by omega]; rfl
theorem dP_used (q : Nat) (dead : Bool) : (dP [] q dead).used = 0 := rfl
theorem dP_may (P : Bs) (q : Nat) : (dP P q false).may 0 = 0 := rfl
theorem dP_append (b : Bs) (k : Nat) (hb : b.length ≤ 600) : (b.length ≤ k → appendE (dP [] k false) 0 b = 0 ∧ appendD (dP [] k false) 0 b = dP b (k - b.length) false) ∧ (k < b.length → appendE (dP [] k false) 0 b = 10 ∧ appendD (dP [] k false) 0 b = dP (b.take k) 0 true) := by
  have hm : (dP [] k false).may 0 = 0 := rfl
  have hu : ¬ (dP [] k false).room < (dP [] k false).used + b.length := by rw [dP_used]; show ¬ 5000 < _; omega
  have e : (dP [] k false).append 0 b = ⟨[⟨[], (b.take (min b.length k)).map .byte⟩], 5000, some (k - min b.length k), decide (min b.length k < b.length)⟩ := rfl
  have E : appendE (dP [] k false) 0 b = ((dP [] k false).append 0 b).state := by unfold appendE; rw [if_neg (by omega), if_neg hu]; rfl
  have D : appendD (dP [] k false) 0 b = (dP [] k false).append 0 b := by unfold appendD; rw [if_neg (by omega), if_neg hu]; rfl
  rw [E, D, e]
  refine ⟨fun h => ?_, fun h => ?_⟩
  · rw [Nat.min_eq_left h, List.take_length, show decide (b.length < b.length) = false by simp]
    exact ⟨rfl, rfl⟩
  · rw [Nat.min_eq_right (by omega), show decide (k < b.length) = true by simp [h], Nat.sub_self]
    exact ⟨rfl, rfl⟩
theorem dP_read (P : Bs) (q : Nat) (dead : Bool) : (dP P q dead).readL 0 = P := (readL_at (d := dP P q dead) (i := 0) rfl).trans (runS_bytes [] P)
theorem dP_dead (P : Bs) (q : Nat) : appendE (dP P q true) 0 [] = 10 ∧ appendD (dP P q true) 0 [] = dP P q true ∧ syncE (dP P q true) 0 = 10 ∧ syncD (dP P q true) 0 = dP P q true ∧ cutE (dP P q true) 0 0 = 10 ∧ cutD (dP P q true) 0 0 = dP P q true ∧ syncE (dP P q true) 1 = 2 := ⟨rfl, rfl, rfl, rfl, rfl, rfl, rfl⟩
/-- Behind a sync, and a restart. -/
def dS (P : Bs) : DDk := ⟨[⟨P, []⟩], 5000, none, false⟩
theorem dP_sync (P : Bs) (q : Nat) : (0 < q → syncE (dP P q false) 0 = 0 ∧ (syncD (dP P q false) 0).restart 0 = dS P) ∧ (q = 0 → syncE (dP P q false) 0 = 10 ∧ (syncD (dP P q false) 0).restart 0 = dS []) := by
  refine ⟨fun h => ?_, fun h => ?_⟩
  · obtain ⟨p, rfl⟩ : ∃ p, q = p + 1 := ⟨q - 1, by omega⟩
    have e : syncD (dP P (p + 1) false) 0 = ⟨[⟨runS [] (P.map .byte), []⟩], 5000, some (p + 1 - min 1 (p + 1)), decide (min 1 (p + 1) < 1)⟩ := by
      unfold syncD
      rw [if_neg (by rw [dP_may]; omega)]
      unfold DDk.sync
      rw [if_pos (show 0 < (dP P (p + 1) false).spend 1 from (show 0 < min 1 (p + 1) by omega))]; rfl
    have e2 : syncE (dP P (p + 1) false) 0 = 0 := by
      unfold syncE
      rw [if_neg (by rw [dP_may]; omega)]
      unfold DDk.sync
      rw [if_pos (show 0 < (dP P (p + 1) false).spend 1 from (show 0 < min 1 (p + 1) by omega))]
      show stateN (decide (min 1 (p + 1) < 1)) = 0
      rw [show decide (min 1 (p + 1) < 1) = false from decide_eq_false (by omega)]; rfl
    refine ⟨e2, ?_⟩
    rw [e, runS_bytes, List.nil_append]; rfl
  · subst h
    exact ⟨rfl, rfl⟩
theorem dS_read (P : Bs) : (dS P).readL 0 = P ∧ (dS P).dead = false ∧ syncE (dS P) 0 = 0 := ⟨readL_at (d := dS P) (i := 0) rfl, rfl, (calm_sync (d := dS P) ⟨rfl, rfl⟩ (i := 0) (by show 0 < 1; omega)).1⟩

theorem DS.readS {B : Nat} {who : Nat → Nat} {w : World} {T g n : Nat} {d : DDk} (h : DS B who w T g d n) (hn : n ≤ 1000000) (a : Int) {P : Bs} {m : Nat} (hP : d.readL a = P) (hm : P.length = m) :
    Calls Try.prog 20 #[.pointer (some ⟨g, 0, none⟩), .int .i64 a] w fun e w' => ∃ A c, e = .returned (.slice A m c) ∧ SlAt w' A c P ∧ Below w.heap.size w w' := by
  refine (h.read hn a).mono ?_
  rintro e w' ⟨v, rfl, ho, hb⟩
  rw [hP] at ho
  obtain ⟨A, c, rfl, hs, _⟩ := OB.sl ho
  rw [hm]
  exact ⟨A, c, rfl, hs, hb⟩
theorem same_eq (P : Bs) (A B : Option Addr) (c d m : Nat) (w : World) (ha : BytesAt w A P) (hb : BytesAt w B P) (hm : P.length = m) : Calls Try.prog 19 #[.slice A m c, .slice B m d] w fun e w' => e = .returned (.bool true) ∧ Below w.heap.size w w' := by
  have := frsame_any P P A B c d m m w ha hb hm hm
  rw [show (P == P) = true by simp] at this
  exact this

set_option maxRecDepth 100000 in
set_option maxHeartbeats 32000000 in
theorem diskpower_any (A : Option Addr) (c : Nat) (b : Bs) (nn : Nat) (w : World) (hnn : nn < 65536) (hs : SlAt w A c b) :
    Calls Try.prog 5 #[.slice A b.length c, .int .u16 (nn : Int)] w fun e w' => e = .returned (.bool true) ∧ Below w.heap.size w w' := by
  by_cases hl : b.length ≤ 600
  · have q0 : ((600 : Int) < (b.length : Int)) = False := eq_false (by omega)
    have HN := Lib.hid (new_ds w 1 5000)
    obtain ⟨k, hk⟩ : ∃ k, nn % 700 = k := ⟨_, rfl⟩
    have hk7 : k < 700 := by omega
    have hkk : ((nn : Int) % 700) = (k : Int) := by omega
    have hpos : (0 : Int) ≤ (nn : Int) := by omega
    have hnew := dP_new k (by omega)
    obtain ⟨p1, p2⟩ := dP_append b k hl
    obtain ⟨m, hm⟩ : ∃ m, b.length = m := ⟨_, rfl⟩
    rw [hm] at q0 hl p1 p2 ⊢
    have HM := Lib.hid hm
    have hcap := hs.cap
    have hc63 := hs.c63
    rw [hm] at hcap
    have HS := Lib.hid hs
    have HNEW := Lib.hid hnew
    by_cases hkm : m ≤ k
    · obtain ⟨e1, e2⟩ := p1 hkm
      have E1 := Lib.hid e1
      have E2 := Lib.hid e2
      have hmin : min (k : Int) (m : Int) = (m : Int) := by omega
      have t1 : decide ((m : Int) ≤ (k : Int)) = true := decide_eq_true (by omega)
      clear p1 p2 e1 e2 hs hm hnew hk
      go_enter Try.func5, Try.ntmps5
      go_wp2_with fail
      refine HN.out.mono ?_
      rintro e w1 ⟨g, rfl, who1, hD1, ht1⟩
      have HAR := Lib.hid (hD1.arm (by omega) (k : Int))
      rw [HNEW.out] at HAR
      have HT1 := Lib.hid ht1
      clear hD1 ht1 HN
      go_wp2_with fail
      refine HAR.out.mono ?_
      rintro e w2 ⟨rfl, who2, hD2, ht2⟩
      have HT2 := Lib.hid (HT1.out.trans ht2)
      have HA := Lib.hid (hD2.append (by omega) (by omega) 0 (HS.out.below (HT2.out.zero (by omega))) HM.out (by omega) (HS.out.who HT2.out))
      rw [E1.out, E2.out, HM.out] at HA
      clear hD2 ht2 HAR HT1
      go_wp2_with fail
      refine HA.out.mono ?_
      rintro e w3 ⟨rfl, who3, hD3, ht3⟩
      have HT3 := Lib.hid (HT2.out.trans ht3)
      have HDEAD := Lib.hid (show Calls Try.prog 16 #[.pointer (some ⟨g, 0, none⟩)] w3.drew (fun e w' => e = .returned (.bool false) ∧ w' = w3.drew) from (hD3.below ((Below.refl _ _).drew)).dead)
      have HRD := Lib.hid ((hD3.below ((Below.refl _ _).drew)).readS (by omega) 0 (dP_read _ _ _) HM.out)
      have HSAME := Lib.hid (fun (W : World) (A5 : Option Addr) (c5 : Nat) (hB : Below w3.drew.heap.size w3.drew W) (h5 : SlAt W A5 c5 b) => same_eq b A5 A c5 c m W h5.bytes ((HS.out.below (HT3.out.zero (by omega))).below (show Below w3.heap.size w3 W from ⟨hB.os, hB.tape, hB.output, hB.size, hB.block⟩)).bytes HM.out)
      have HD3 := Lib.hid hD3
      clear hD3 ht3 HA HT2
      go_wp2_with fail
      refine wp_region_held_drew (S := (fun w' => AnyA w' ∧ AnyB w')) (by kernel_rfl) ⟨trivial, trivial⟩ (fun hHeld => ?_)
      refine wpAnyH_take (i := 0) (v := ?va0) rfl (by kernel_rfl) (by kernel_rfl) (by kernel_rfl) (fun _ _ _ h => h) (Or.inl ⟨by rfl, ?ya0⟩) (by assumption) ?ra0
      case ya0 =>
        intro w hSw
        (try dsimp only at hSw)
        go_simp
        first | done | with_reducible rfl
      try simp only [Act.put, List.getElem_toArray, List.getElem_cons_zero, List.setIfInBounds_toArray, List.set_cons_zero, List.set_cons_succ]
      refine wpAnyH_take (i := 1) (v := ?va1) rfl (by kernel_rfl) (by kernel_rfl) (by kernel_rfl) (fun _ _ _ h => h) (Or.inl ⟨by rfl, ?ya1⟩) (by assumption) ?ra1
      case ya1 =>
        intro w hSw
        (try dsimp only at hSw)
        go_simp
        first | done | with_reducible rfl
      try simp only [Act.put, List.getElem_toArray, List.getElem_cons_zero, List.getElem_cons_succ, List.setIfInBounds_toArray, List.set_cons_zero, List.set_cons_succ]
      refine wpAnyH_take (i := 2) (v := ?va2) rfl (by kernel_rfl) (by kernel_rfl) (by kernel_rfl) (fun _ _ _ h => h) (Or.inl ⟨by rfl, ?ya2⟩) (by assumption) ?ra2
      case ya2 =>
        intro w hSw
        (try dsimp only at hSw)
        go_simp
        first | done | with_reducible rfl
      try simp only [Act.put, List.getElem_toArray, List.getElem_cons_zero, List.getElem_cons_succ, List.setIfInBounds_toArray, List.set_cons_zero, List.set_cons_succ]
      refine wpAnyH_take (i := 3) (v := ?va3) rfl (by kernel_rfl) (by kernel_rfl) (by kernel_rfl) (fun _ _ _ h => h) (Or.inl ⟨by rfl, ?ya3⟩) (by assumption) ?ra3
      case ya3 =>
        intro w hSw
        (try dsimp only at hSw)
        go_simp
        first | done | with_reducible rfl
      try simp only [Act.put, List.getElem_toArray, List.getElem_cons_zero, List.getElem_cons_succ, List.setIfInBounds_toArray, List.set_cons_zero, List.set_cons_succ]
      refine wpAnyH_take (i := 4) (v := ?va4) rfl (by kernel_rfl) (by kernel_rfl) (by kernel_rfl) (fun _ _ _ h => h) (Or.inl ⟨by rfl, ?ya4⟩) (by assumption) ?ra4
      case ya4 =>
        intro w hSw
        (try dsimp only at hSw)
        go_simp
        first | done | with_reducible rfl
      try simp only [Act.put, List.getElem_toArray, List.getElem_cons_zero, List.getElem_cons_succ, List.setIfInBounds_toArray, List.set_cons_zero, List.set_cons_succ]
      refine wpAnyH_take (i := 5) (v := ?va5) rfl (by kernel_rfl) (by kernel_rfl) (by kernel_rfl) (fun _ _ _ h => h) (Or.inl ⟨by rfl, ?ya5⟩) (by assumption) ?ra5
      case ya5 =>
        intro w hSw
        (try dsimp only at hSw)
        go_simp
        first | done | with_reducible rfl
      try simp only [Act.put, List.getElem_toArray, List.getElem_cons_zero, List.getElem_cons_succ, List.setIfInBounds_toArray, List.set_cons_zero, List.set_cons_succ]
      refine wpAnyH_take (i := 6) (v := ?va6) rfl (by kernel_rfl) (by kernel_rfl) (by kernel_rfl) (fun _ _ _ h => h) (Or.inl ⟨by rfl, ?ya6⟩) (by assumption) ?ra6
      case ya6 =>
        intro w hSw
        (try dsimp only at hSw)
        go_simp
        first | done | with_reducible rfl
      try simp only [Act.put, List.getElem_toArray, List.getElem_cons_zero, List.getElem_cons_succ, List.setIfInBounds_toArray, List.set_cons_zero, List.set_cons_succ]
      refine wpAnyH_take (i := 7) (v := ?va7) rfl (by kernel_rfl) (by kernel_rfl) (by kernel_rfl) (fun _ _ _ h => h) (Or.inl ⟨by rfl, ?ya7⟩) (by assumption) ?ra7
      case ya7 =>
        intro w hSw
        (try dsimp only at hSw)
        go_simp
        first | done | with_reducible rfl
      try simp only [Act.put, List.getElem_toArray, List.getElem_cons_zero, List.getElem_cons_succ, List.setIfInBounds_toArray, List.set_cons_zero, List.set_cons_succ]
      refine wpAnyH_take (i := 8) (v := ?va8) rfl (by kernel_rfl) (by kernel_rfl) (by kernel_rfl) (fun _ _ _ h => h) (Or.inl ⟨by rfl, ?ya8⟩) (by assumption) ?ra8
      case ya8 =>
        intro w hSw
        (try dsimp only at hSw)
        go_simp
        first | done | with_reducible rfl
      try simp only [Act.put, List.getElem_toArray, List.getElem_cons_zero, List.getElem_cons_succ, List.setIfInBounds_toArray, List.set_cons_zero, List.set_cons_succ]
      refine wpAnyH_take (i := 9) (v := ?va9) rfl (by kernel_rfl) (by kernel_rfl) (by kernel_rfl) (fun _ _ _ h => h) (Or.inl ⟨by rfl, ?ya9⟩) (by assumption) ?ra9
      case ya9 =>
        intro w hSw
        (try dsimp only at hSw)
        go_simp
        first | done | with_reducible rfl
      try simp only [Act.put, List.getElem_toArray, List.getElem_cons_zero, List.getElem_cons_succ, List.setIfInBounds_toArray, List.set_cons_zero, List.set_cons_succ]
      refine wpAnyH_take (i := 10) (v := ?va10) rfl (by kernel_rfl) (by kernel_rfl) (by kernel_rfl) (fun _ _ _ h => h) (Or.inl ⟨by rfl, ?ya10⟩) (by assumption) ?ra10
      case ya10 =>
        intro w hSw
        (try dsimp only at hSw)
        go_simp
        first | done | with_reducible rfl
      try simp only [Act.put, List.getElem_toArray, List.getElem_cons_zero, List.getElem_cons_succ, List.setIfInBounds_toArray, List.set_cons_zero, List.set_cons_succ]
      refine wpAnyH_take (i := 11) (v := undef) rfl (by kernel_rfl) (by kernel_rfl) (by kernel_rfl) (fun _ _ _ h => h) (Or.inr ⟨by rfl, rfl⟩) (by assumption) ?ra11
      try simp only [Act.put, List.getElem_toArray, List.getElem_cons_zero, List.getElem_cons_succ, List.setIfInBounds_toArray, List.set_cons_zero, List.set_cons_succ]
      refine wpAnyH_take (i := 12) (v := undef) rfl (by kernel_rfl) (by kernel_rfl) (by kernel_rfl) (fun _ _ _ h => h) (Or.inr ⟨by rfl, rfl⟩) (by assumption) ?ra12
      try simp only [Act.put, List.getElem_toArray, List.getElem_cons_zero, List.getElem_cons_succ, List.setIfInBounds_toArray, List.set_cons_zero, List.set_cons_succ]
      refine wpAnyH_take (i := 13) (v := ?va13) rfl (by kernel_rfl) (by kernel_rfl) (by kernel_rfl) (fun _ _ _ h => h) (Or.inl ⟨by rfl, ?ya13⟩) (by assumption) ?ra13
      case ya13 =>
        intro w hSw
        (try dsimp only at hSw)
        go_simp
        first | done | with_reducible rfl
      try simp only [Act.put, List.getElem_toArray, List.getElem_cons_zero, List.getElem_cons_succ, List.setIfInBounds_toArray, List.set_cons_zero, List.set_cons_succ]
      refine wpAnyH_take (i := 14) (v := ?va14) rfl (by kernel_rfl) (by kernel_rfl) (by kernel_rfl) (fun _ _ _ h => h) (Or.inl ⟨by rfl, ?ya14⟩) (by assumption) ?ra14
      case ya14 =>
        intro w hSw
        (try dsimp only at hSw)
        go_simp
        first | done | with_reducible rfl
      try simp only [Act.put, List.getElem_toArray, List.getElem_cons_zero, List.getElem_cons_succ, List.setIfInBounds_toArray, List.set_cons_zero, List.set_cons_succ]
      refine wpAnyH_take (i := 15) (v := ?va15) rfl (by kernel_rfl) (by kernel_rfl) (by kernel_rfl) (fun _ _ _ h => h) (Or.inl ⟨by rfl, ?ya15⟩) (by assumption) ?ra15
      case ya15 =>
        intro w hSw
        (try dsimp only at hSw)
        go_simp
        first | done | with_reducible rfl
      try simp only [Act.put, List.getElem_toArray, List.getElem_cons_zero, List.getElem_cons_succ, List.setIfInBounds_toArray, List.set_cons_zero, List.set_cons_succ]
      refine wpAnyH_take (i := 16) (v := ?va16) rfl (by kernel_rfl) (by kernel_rfl) (by kernel_rfl) (fun _ _ _ h => h) (Or.inl ⟨by rfl, ?ya16⟩) (by assumption) ?ra16
      case ya16 =>
        intro w hSw
        (try dsimp only at hSw)
        go_simp
        first | done | with_reducible rfl
      try simp only [Act.put, List.getElem_toArray, List.getElem_cons_zero, List.getElem_cons_succ, List.setIfInBounds_toArray, List.set_cons_zero, List.set_cons_succ]
      refine wpAnyH_take (i := 18) (v := ?va18) rfl (by kernel_rfl) (by kernel_rfl) (by kernel_rfl) (fun _ _ _ h => h) (Or.inl ⟨by rfl, ?ya18⟩) (by assumption) ?ra18
      case ya18 =>
        intro w hSw
        (try dsimp only at hSw)
        go_simp
        first | done | with_reducible rfl
      try simp only [Act.put, List.getElem_toArray, List.getElem_cons_zero, List.getElem_cons_succ, List.setIfInBounds_toArray, List.set_cons_zero, List.set_cons_succ]
      refine wpAnyH_take (i := 19) (v := ?va19) rfl (by kernel_rfl) (by kernel_rfl) (by kernel_rfl) (fun _ _ _ h => h) (Or.inl ⟨by rfl, ?ya19⟩) (by assumption) ?ra19
      case ya19 =>
        intro w hSw
        (try dsimp only at hSw)
        go_simp
        first | done | with_reducible rfl
      try simp only [Act.put, List.getElem_toArray, List.getElem_cons_zero, List.getElem_cons_succ, List.setIfInBounds_toArray, List.set_cons_zero, List.set_cons_succ]
      refine wpAnyH_ready (rs := [17]) (by kernel_rfl) (by simp) ?_
      refine AllReadyH.cons rfl (fun K hK => ?_) AllReadyH.nil
      go_simp
      refine HDEAD.out.mono ?_
      rintro e wq ⟨rfl, rfl⟩
      go_wp2_with fail
      refine hK.out _ _ hHeld (fun hHeld => ?_)
      clear hK K
      try simp only [Act.put, List.getElem_toArray, List.getElem_cons_zero, List.getElem_cons_succ, List.setIfInBounds_toArray, List.set_cons_zero, List.set_cons_succ]
      refine wpAnyH_take (i := 20) (v := ?va20) rfl (by kernel_rfl) (by kernel_rfl) (by kernel_rfl) (fun _ _ _ h => h) (Or.inl ⟨by rfl, ?ya20⟩) (by assumption) ?ra20
      case ya20 =>
        intro w hSw
        (try dsimp only at hSw)
        go_simp
        first | done | with_reducible rfl
      try simp only [Act.put, List.getElem_toArray, List.getElem_cons_zero, List.getElem_cons_succ, List.setIfInBounds_toArray, List.set_cons_zero, List.set_cons_succ]
      refine wpAnyH_take (i := 21) (v := ?va21) rfl (by kernel_rfl) (by kernel_rfl) (by kernel_rfl) (fun _ _ _ h => h) (Or.inl ⟨by rfl, ?ya21⟩) (by assumption) ?ra21
      case ya21 =>
        intro w hSw
        (try dsimp only at hSw)
        go_simp
        first | done | with_reducible rfl
      try simp only [Act.put, List.getElem_toArray, List.getElem_cons_zero, List.getElem_cons_succ, List.setIfInBounds_toArray, List.set_cons_zero, List.set_cons_succ]
      refine wpAnyH_take (i := 22) (v := ?va22) rfl (by kernel_rfl) (by kernel_rfl) (by kernel_rfl) (fun _ _ _ h => h) (Or.inl ⟨by rfl, ?ya22⟩) (by assumption) ?ra22
      case ya22 =>
        intro w hSw
        (try dsimp only at hSw)
        go_simp
        first | done | with_reducible rfl
      try simp only [Act.put, List.getElem_toArray, List.getElem_cons_zero, List.getElem_cons_succ, List.setIfInBounds_toArray, List.set_cons_zero, List.set_cons_succ]
      refine wpAnyH_take (i := 23) (v := ?va23) rfl (by kernel_rfl) (by kernel_rfl) (by kernel_rfl) (fun _ _ _ h => h) (Or.inl ⟨by rfl, ?ya23⟩) (by assumption) ?ra23
      case ya23 =>
        intro w hSw
        (try dsimp only at hSw)
        go_simp
        first | done | with_reducible rfl
      try simp only [Act.put, List.getElem_toArray, List.getElem_cons_zero, List.getElem_cons_succ, List.setIfInBounds_toArray, List.set_cons_zero, List.set_cons_succ]
      refine wpAnyH_take (i := 25) (v := ?va25) rfl (by kernel_rfl) (by kernel_rfl) (by kernel_rfl) (fun _ _ _ h => h) (Or.inl ⟨by rfl, ?ya25⟩) (by assumption) ?ra25
      case ya25 =>
        intro w hSw
        (try dsimp only at hSw)
        go_simp
        first | done | with_reducible rfl
      try simp only [Act.put, List.getElem_toArray, List.getElem_cons_zero, List.getElem_cons_succ, List.setIfInBounds_toArray, List.set_cons_zero, List.set_cons_succ]
      refine wpAnyH_take (i := 26) (v := ?va26) rfl (by kernel_rfl) (by kernel_rfl) (by kernel_rfl) (fun _ _ _ h => h) (Or.inl ⟨by rfl, ?ya26⟩) (by assumption) ?ra26
      case ya26 =>
        intro w hSw
        (try dsimp only at hSw)
        go_simp
        first | done | with_reducible rfl
      try simp only [Act.put, List.getElem_toArray, List.getElem_cons_zero, List.getElem_cons_succ, List.setIfInBounds_toArray, List.set_cons_zero, List.set_cons_succ]
      refine wpAnyH_take (i := 27) (v := ?va27) rfl (by kernel_rfl) (by kernel_rfl) (by kernel_rfl) (fun _ _ _ h => h) (Or.inl ⟨by rfl, ?ya27⟩) (by assumption) ?ra27
      case ya27 =>
        intro w hSw
        (try dsimp only at hSw)
        go_simp
        first | done | with_reducible rfl
      try simp only [Act.put, List.getElem_toArray, List.getElem_cons_zero, List.getElem_cons_succ, List.setIfInBounds_toArray, List.set_cons_zero, List.set_cons_succ]
      refine wpAnyH_take (i := 28) (v := ?va28) rfl (by kernel_rfl) (by kernel_rfl) (by kernel_rfl) (fun _ _ _ h => h) (Or.inl ⟨by rfl, ?ya28⟩) (by assumption) ?ra28
      case ya28 =>
        intro w hSw
        (try dsimp only at hSw)
        go_simp
        first | done | with_reducible rfl
      try simp only [Act.put, List.getElem_toArray, List.getElem_cons_zero, List.getElem_cons_succ, List.setIfInBounds_toArray, List.set_cons_zero, List.set_cons_succ]
      refine wpAnyH_take (i := 29) (v := ?va29) rfl (by kernel_rfl) (by kernel_rfl) (by kernel_rfl) (fun _ _ _ h => h) (Or.inl ⟨by rfl, ?ya29⟩) (by assumption) ?ra29
      case ya29 =>
        intro w hSw
        (try dsimp only at hSw)
        go_simp
        first | done | with_reducible rfl
      try simp only [Act.put, List.getElem_toArray, List.getElem_cons_zero, List.getElem_cons_succ, List.setIfInBounds_toArray, List.set_cons_zero, List.set_cons_succ]
      refine wpAnyH_take (i := 30) (v := ?va30) rfl (by kernel_rfl) (by kernel_rfl) (by kernel_rfl) (fun _ _ _ h => h) (Or.inl ⟨by rfl, ?ya30⟩) (by assumption) ?ra30
      case ya30 =>
        intro w hSw
        (try dsimp only at hSw)
        go_simp
        first | done | with_reducible rfl
      try simp only [Act.put, List.getElem_toArray, List.getElem_cons_zero, List.getElem_cons_succ, List.setIfInBounds_toArray, List.set_cons_zero, List.set_cons_succ]
      refine wpAnyH_ready (rs := [24]) (by kernel_rfl) (by simp) ?_
      refine AllReadyH.cons rfl (fun K hK => ?_) AllReadyH.nil
      go_simp
      refine HRD.out.mono ?_
      rintro e w5 ⟨A5, c5, rfl, hs5, hb5⟩
      have HS5 := Lib.hid hs5
      have HB5 := Lib.hid hb5
      clear hs5 hb5
      go_wp2_with fail
      refine hK.out _ _ ⟨trivial, trivial⟩ (fun hHeld => ?_)
      clear hK K
      try simp only [Act.put, List.getElem_toArray, List.getElem_cons_zero, List.getElem_cons_succ, List.setIfInBounds_toArray, List.set_cons_zero, List.set_cons_succ]
      refine wpAnyH_ready (rs := [31]) (by kernel_rfl) (by simp) ?_
      refine AllReadyH.cons rfl (fun K hK => ?_) AllReadyH.nil
      go_simp
      refine (HSAME.out _ A5 c5 HB5.out HS5.out).mono ?_
      rintro e w6 ⟨rfl, hb6⟩
      have HB6 := Lib.hid (HB5.out.trans (hb6.mono HB5.out.size))
      clear hb6
      go_wp2_with fail
      refine hK.out _ _ ⟨trivial, trivial⟩ (fun hHeld => ?_)
      clear hK K
      try simp only [Act.put, List.getElem_toArray, List.getElem_cons_zero, List.getElem_cons_succ, List.setIfInBounds_toArray, List.set_cons_zero, List.set_cons_succ]
      refine wpAnyH_take (i := 32) (v := ?va32) rfl (by kernel_rfl) (by kernel_rfl) (by kernel_rfl) (fun _ _ _ h => h) (Or.inl ⟨by rfl, ?ya32⟩) (by assumption) ?ra32
      case ya32 =>
        intro w hSw
        (try dsimp only at hSw)
        go_simp
        first | done | with_reducible rfl
      try simp only [Act.put, List.getElem_toArray, List.getElem_cons_zero, List.getElem_cons_succ, List.setIfInBounds_toArray, List.set_cons_zero, List.set_cons_succ]
      refine wpAnyH_take (i := 33) (v := ?va33) rfl (by kernel_rfl) (by kernel_rfl) (by kernel_rfl) (fun _ _ _ h => h) (Or.inl ⟨by rfl, ?ya33⟩) (by assumption) ?ra33
      case ya33 =>
        intro w hSw
        (try dsimp only at hSw)
        go_simp
        first | done | with_reducible rfl
      try simp only [Act.put, List.getElem_toArray, List.getElem_cons_zero, List.getElem_cons_succ, List.setIfInBounds_toArray, List.set_cons_zero, List.set_cons_succ]
      refine wpAnyH_done (by kernel_rfl) ?_ _
      have HB7 := Lib.hid (show Below w3.heap.size w3 w6 from ⟨HB6.out.os, HB6.out.tape, HB6.out.output, HB6.out.size, HB6.out.block⟩)
      clear HB6 HB5 HS5 hHeld
      have HT6 := Lib.hid (HT3.out.trans (Turn.below HB7.out))
      have HD6 := Lib.hid (HD3.out.below HB7.out)
      have HSY := Lib.hid (HD6.out.sync (by omega) (by omega) 0)
      clear HD3 HT3 HRD HSAME HDEAD HB7
      by_cases hkm2 : m < k
      · have f1 := ((dP_sync b (k - m)).1 (by omega)).1
        have f2 := ((dP_sync b (k - m)).1 (by omega)).2
        rw [f1] at HSY
        have F2 := Lib.hid f2
        clear f1 f2
        have t2 : decide ((m : Int) < (k : Int)) = true := decide_eq_true (by omega)
        have t3 : decide ((k : Int) = (m : Int)) = false := decide_eq_false (by omega)
        have t4 : ((k : Int) = (m : Int)) = False := eq_false (by omega)
        have t5 : (k = m) = False := eq_false (by omega)
        go_wp2_with fail
        refine HSY.out.mono ?_
        rintro e w7 ⟨rfl, who7, hD7, ht7⟩
        have HRS := Lib.hid (hD7.restart (by omega) (by omega) 0 (by omega))
        rw [F2.out] at HRS
        have HT7 := Lib.hid (HT6.out.trans ht7)
        clear hD7 ht7 HSY HT6 HD6
        go_wp2_with fail
        refine HRS.out.mono ?_
        rintro e w8 ⟨rfl, who8, hD8, ht8⟩
        obtain ⟨z1, z2, z3⟩ := dS_read b
        have HT8 := Lib.hid (HT7.out.trans ht8)
        have HR8 := Lib.hid (hD8.readS (by omega) 0 z1 HM.out)
        have HD8 := Lib.hid hD8
        have Z3 := Lib.hid z3
        clear hD8 ht8 HRS HT7 z1 z2 z3
        go_wp2_with fail
        refine HR8.out.mono ?_
        rintro e w9 ⟨A9, c9, rfl, hs9, hb9⟩
        have HT9 := Lib.hid (HT8.out.trans (Turn.below hb9))
        have HSM := Lib.hid (same_eq b A9 A c9 c m w9 hs9.bytes (HS.out.below (HT9.out.zero (by omega))).bytes HM.out)
        have HD9 := Lib.hid (HD8.out.below hb9)
        clear hs9 hb9 HR8 HT8 HD8
        go_wp2_with fail
        refine HSM.out.mono ?_
        rintro e w10 ⟨rfl, hb10⟩
        have HT10 := Lib.hid (HT9.out.trans (Turn.below hb10))
        have HD10 := Lib.hid (HD9.out.below hb10)
        have HDD := Lib.hid (show Calls Try.prog 16 #[.pointer (some ⟨g, 0, none⟩)] w10 (fun e w' => e = .returned (.bool false) ∧ w' = w10) from HD10.out.dead)
        have HSZ := Lib.hid (HD10.out.sync (by omega) (by omega) 0)
        rw [Z3.out] at HSZ
        clear hb10 HSM HD9 HT9
        go_wp2_with fail
        refine HDD.out.mono ?_
        rintro e w' ⟨rfl, hw⟩
        have hw := hw.symm
        subst hw
        go_wp2_with fail
        refine HSZ.out.mono ?_
        rintro e w11 ⟨rfl, who11, hD11, ht11⟩
        have HT11 := Lib.hid (HT10.out.trans ht11)
        have HK := Lib.hid (known_any w11)
        clear hD11 ht11 HSZ HDD HT10 HD10
        go_wp2_with fail
        refine HK.out.mono ?_
        rintro e w12 ⟨rfl, hb12⟩
        go_wp2_with fail
        go_ret
        have hz := HT11.out.zero (by omega)
        exact ⟨rfl, hz.trans (hb12.mono hz.size)⟩
      · obtain rfl : k = m := by omega
        have f1 := ((dP_sync b (k - k)).2 (by omega)).1
        have f2 := ((dP_sync b (k - k)).2 (by omega)).2
        rw [f1] at HSY
        have F2 := Lib.hid f2
        clear f1 f2
        go_wp2_with fail
        refine HSY.out.mono ?_
        rintro e w7 ⟨rfl, who7, hD7, ht7⟩
        have HRS := Lib.hid (hD7.restart (by omega) (by omega) 0 (by omega))
        rw [F2.out] at HRS
        have HT7 := Lib.hid (HT6.out.trans ht7)
        clear hD7 ht7 HSY HT6 HD6
        go_wp2_with fail
        refine HRS.out.mono ?_
        rintro e w8 ⟨rfl, who8, hD8, ht8⟩
        obtain ⟨z1, z2, z3⟩ := dS_read []
        have HT8 := Lib.hid (HT7.out.trans ht8)
        have HR8 := Lib.hid (hD8.readS (m := 0) (by omega) 0 z1 rfl)
        have HD8 := Lib.hid hD8
        have Z3 := Lib.hid z3
        clear hD8 ht8 HRS HT7 z1 z2 z3
        go_wp2_with fail
        refine HR8.out.mono ?_
        rintro e w9 ⟨A9, c9, rfl, hs9, hb9⟩
        have HT9 := Lib.hid (HT8.out.trans (Turn.below hb9))
        have HSM := Lib.hid (same_eq [] A9 none c9 0 0 w9 hs9.bytes (BytesAt.nil _ _) rfl)
        have HD9 := Lib.hid (HD8.out.below hb9)
        clear hs9 hb9 HR8 HT8 HD8
        go_wp2_with fail
        refine HSM.out.mono ?_
        rintro e w10 ⟨rfl, hb10⟩
        have HT10 := Lib.hid (HT9.out.trans (Turn.below hb10))
        have HD10 := Lib.hid (HD9.out.below hb10)
        have HDD := Lib.hid (show Calls Try.prog 16 #[.pointer (some ⟨g, 0, none⟩)] w10 (fun e w' => e = .returned (.bool false) ∧ w' = w10) from HD10.out.dead)
        have HSZ := Lib.hid (HD10.out.sync (by omega) (by omega) 0)
        rw [Z3.out] at HSZ
        clear hb10 HSM HD9 HT9
        go_wp2_with fail
        refine HDD.out.mono ?_
        rintro e w' ⟨rfl, hw⟩
        have hw := hw.symm
        subst hw
        go_wp2_with fail
        refine HSZ.out.mono ?_
        rintro e w11 ⟨rfl, who11, hD11, ht11⟩
        have HT11 := Lib.hid (HT10.out.trans ht11)
        have HK := Lib.hid (known_any w11)
        clear hD11 ht11 HSZ HDD HT10 HD10
        go_wp2_with fail
        refine HK.out.mono ?_
        rintro e w12 ⟨rfl, hb12⟩
        go_wp2_with fail
        go_ret
        have hz := HT11.out.zero (by omega)
        exact ⟨rfl, hz.trans (hb12.mono hz.size)⟩
    · obtain ⟨e1, e2⟩ := p2 (by omega)
      have E1 := Lib.hid e1
      have E2 := Lib.hid e2
      have hmin : min (k : Int) (m : Int) = (k : Int) := by omega
      have t1 : decide ((m : Int) ≤ (k : Int)) = false := decide_eq_false (by omega)
      have t2 : (m ≤ k) = False := eq_false hkm
      have HTL := Lib.hid (show (b.take k).length = k by rw [List.length_take]; omega)
      have hkc : (k : Int) ≤ (c : Int) := by omega
      clear p1 p2 e1 e2 hs hm hnew hk
      go_enter Try.func5, Try.ntmps5
      go_wp2_with fail
      refine HN.out.mono ?_
      rintro e w1 ⟨g, rfl, who1, hD1, ht1⟩
      have HAR := Lib.hid (hD1.arm (by omega) (k : Int))
      rw [HNEW.out] at HAR
      have HT1 := Lib.hid ht1
      clear hD1 ht1 HN
      go_wp2_with fail
      refine HAR.out.mono ?_
      rintro e w2 ⟨rfl, who2, hD2, ht2⟩
      have HT2 := Lib.hid (HT1.out.trans ht2)
      have HA := Lib.hid (hD2.append (by omega) (by omega) 0 (HS.out.below (HT2.out.zero (by omega))) HM.out (by omega) (HS.out.who HT2.out))
      rw [E1.out, E2.out, HM.out] at HA
      clear hD2 ht2 HAR HT1
      go_wp2_with fail
      refine HA.out.mono ?_
      rintro e w3 ⟨rfl, who3, hD3, ht3⟩
      have HT3 := Lib.hid (HT2.out.trans ht3)
      have HDEAD := Lib.hid (show Calls Try.prog 16 #[.pointer (some ⟨g, 0, none⟩)] w3.drew (fun e w' => e = .returned (.bool true) ∧ w' = w3.drew) from (hD3.below ((Below.refl _ _).drew)).dead)
      have HRD := Lib.hid ((hD3.below ((Below.refl _ _).drew)).readS (by omega) 0 (dP_read _ _ _) HTL.out)
      have HSAME := Lib.hid (fun (W : World) (A5 : Option Addr) (c5 : Nat) (hB : Below w3.drew.heap.size w3.drew W) (h5 : SlAt W A5 c5 (b.take k)) => same_eq (b.take k) A5 A c5 c k W h5.bytes ((HS.out.take k).below (HT3.out.zero (by omega)) |>.below (show Below w3.heap.size w3 W from ⟨hB.os, hB.tape, hB.output, hB.size, hB.block⟩)).bytes HTL.out)
      have HD3 := Lib.hid hD3
      obtain ⟨qb, hqb⟩ : ∃ q, b.take k = q := ⟨_, rfl⟩
      rw [hqb] at HRD HSAME HD3
      clear hD3 ht3 HA HT2 hqb
      go_wp2_with fail
      refine wp_region_held_drew (S := (fun w' => AnyA w' ∧ AnyB w')) (by kernel_rfl) ⟨trivial, trivial⟩ (fun hHeld => ?_)
      refine wpAnyH_take (i := 0) (v := ?vc0) rfl (by kernel_rfl) (by kernel_rfl) (by kernel_rfl) (fun _ _ _ h => h) (Or.inl ⟨by rfl, ?yc0⟩) (by assumption) ?rc0
      case yc0 =>
        intro w hSw
        (try dsimp only at hSw)
        go_simp
        first | done | with_reducible rfl
      try simp only [Act.put, List.getElem_toArray, List.getElem_cons_zero, List.setIfInBounds_toArray, List.set_cons_zero, List.set_cons_succ]
      refine wpAnyH_take (i := 1) (v := ?vc1) rfl (by kernel_rfl) (by kernel_rfl) (by kernel_rfl) (fun _ _ _ h => h) (Or.inl ⟨by rfl, ?yc1⟩) (by assumption) ?rc1
      case yc1 =>
        intro w hSw
        (try dsimp only at hSw)
        go_simp
        first | done | with_reducible rfl
      try simp only [Act.put, List.getElem_toArray, List.getElem_cons_zero, List.getElem_cons_succ, List.setIfInBounds_toArray, List.set_cons_zero, List.set_cons_succ]
      refine wpAnyH_take (i := 2) (v := ?vc2) rfl (by kernel_rfl) (by kernel_rfl) (by kernel_rfl) (fun _ _ _ h => h) (Or.inl ⟨by rfl, ?yc2⟩) (by assumption) ?rc2
      case yc2 =>
        intro w hSw
        (try dsimp only at hSw)
        go_simp
        first | done | with_reducible rfl
      try simp only [Act.put, List.getElem_toArray, List.getElem_cons_zero, List.getElem_cons_succ, List.setIfInBounds_toArray, List.set_cons_zero, List.set_cons_succ]
      refine wpAnyH_take (i := 3) (v := ?vc3) rfl (by kernel_rfl) (by kernel_rfl) (by kernel_rfl) (fun _ _ _ h => h) (Or.inl ⟨by rfl, ?yc3⟩) (by assumption) ?rc3
      case yc3 =>
        intro w hSw
        (try dsimp only at hSw)
        go_simp
        first | done | with_reducible rfl
      try simp only [Act.put, List.getElem_toArray, List.getElem_cons_zero, List.getElem_cons_succ, List.setIfInBounds_toArray, List.set_cons_zero, List.set_cons_succ]
      refine wpAnyH_take (i := 4) (v := ?vc4) rfl (by kernel_rfl) (by kernel_rfl) (by kernel_rfl) (fun _ _ _ h => h) (Or.inl ⟨by rfl, ?yc4⟩) (by assumption) ?rc4
      case yc4 =>
        intro w hSw
        (try dsimp only at hSw)
        go_simp
        first | done | with_reducible rfl
      try simp only [Act.put, List.getElem_toArray, List.getElem_cons_zero, List.getElem_cons_succ, List.setIfInBounds_toArray, List.set_cons_zero, List.set_cons_succ]
      refine wpAnyH_take (i := 5) (v := ?vc5) rfl (by kernel_rfl) (by kernel_rfl) (by kernel_rfl) (fun _ _ _ h => h) (Or.inl ⟨by rfl, ?yc5⟩) (by assumption) ?rc5
      case yc5 =>
        intro w hSw
        (try dsimp only at hSw)
        go_simp
        first | done | with_reducible rfl
      try simp only [Act.put, List.getElem_toArray, List.getElem_cons_zero, List.getElem_cons_succ, List.setIfInBounds_toArray, List.set_cons_zero, List.set_cons_succ]
      refine wpAnyH_take (i := 6) (v := ?vc6) rfl (by kernel_rfl) (by kernel_rfl) (by kernel_rfl) (fun _ _ _ h => h) (Or.inl ⟨by rfl, ?yc6⟩) (by assumption) ?rc6
      case yc6 =>
        intro w hSw
        (try dsimp only at hSw)
        go_simp
        first | done | with_reducible rfl
      try simp only [Act.put, List.getElem_toArray, List.getElem_cons_zero, List.getElem_cons_succ, List.setIfInBounds_toArray, List.set_cons_zero, List.set_cons_succ]
      refine wpAnyH_take (i := 7) (v := ?vc7) rfl (by kernel_rfl) (by kernel_rfl) (by kernel_rfl) (fun _ _ _ h => h) (Or.inl ⟨by rfl, ?yc7⟩) (by assumption) ?rc7
      case yc7 =>
        intro w hSw
        (try dsimp only at hSw)
        go_simp
        first | done | with_reducible rfl
      try simp only [Act.put, List.getElem_toArray, List.getElem_cons_zero, List.getElem_cons_succ, List.setIfInBounds_toArray, List.set_cons_zero, List.set_cons_succ]
      refine wpAnyH_take (i := 8) (v := ?vc8) rfl (by kernel_rfl) (by kernel_rfl) (by kernel_rfl) (fun _ _ _ h => h) (Or.inl ⟨by rfl, ?yc8⟩) (by assumption) ?rc8
      case yc8 =>
        intro w hSw
        (try dsimp only at hSw)
        go_simp
        first | done | with_reducible rfl
      try simp only [Act.put, List.getElem_toArray, List.getElem_cons_zero, List.getElem_cons_succ, List.setIfInBounds_toArray, List.set_cons_zero, List.set_cons_succ]
      refine wpAnyH_take (i := 9) (v := ?vc9) rfl (by kernel_rfl) (by kernel_rfl) (by kernel_rfl) (fun _ _ _ h => h) (Or.inl ⟨by rfl, ?yc9⟩) (by assumption) ?rc9
      case yc9 =>
        intro w hSw
        (try dsimp only at hSw)
        go_simp
        first | done | with_reducible rfl
      try simp only [Act.put, List.getElem_toArray, List.getElem_cons_zero, List.getElem_cons_succ, List.setIfInBounds_toArray, List.set_cons_zero, List.set_cons_succ]
      refine wpAnyH_take (i := 10) (v := ?vc10) rfl (by kernel_rfl) (by kernel_rfl) (by kernel_rfl) (fun _ _ _ h => h) (Or.inl ⟨by rfl, ?yc10⟩) (by assumption) ?rc10
      case yc10 =>
        intro w hSw
        (try dsimp only at hSw)
        go_simp
        first | done | with_reducible rfl
      try simp only [Act.put, List.getElem_toArray, List.getElem_cons_zero, List.getElem_cons_succ, List.setIfInBounds_toArray, List.set_cons_zero, List.set_cons_succ]
      refine wpAnyH_take (i := 11) (v := ?vc11) rfl (by kernel_rfl) (by kernel_rfl) (by kernel_rfl) (fun _ _ _ h => h) (Or.inl ⟨by rfl, ?yc11⟩) (by assumption) ?rc11
      case yc11 =>
        intro w hSw
        (try dsimp only at hSw)
        go_simp
        first | done | with_reducible rfl
      try simp only [Act.put, List.getElem_toArray, List.getElem_cons_zero, List.getElem_cons_succ, List.setIfInBounds_toArray, List.set_cons_zero, List.set_cons_succ]
      refine wpAnyH_take (i := 12) (v := ?vc12) rfl (by kernel_rfl) (by kernel_rfl) (by kernel_rfl) (fun _ _ _ h => h) (Or.inl ⟨by rfl, ?yc12⟩) (by assumption) ?rc12
      case yc12 =>
        intro w hSw
        (try dsimp only at hSw)
        go_simp
        first | done | with_reducible rfl
      try simp only [Act.put, List.getElem_toArray, List.getElem_cons_zero, List.getElem_cons_succ, List.setIfInBounds_toArray, List.set_cons_zero, List.set_cons_succ]
      refine wpAnyH_take (i := 13) (v := ?vc13) rfl (by kernel_rfl) (by kernel_rfl) (by kernel_rfl) (fun _ _ _ h => h) (Or.inl ⟨by rfl, ?yc13⟩) (by assumption) ?rc13
      case yc13 =>
        intro w hSw
        (try dsimp only at hSw)
        go_simp
        first | done | with_reducible rfl
      try simp only [Act.put, List.getElem_toArray, List.getElem_cons_zero, List.getElem_cons_succ, List.setIfInBounds_toArray, List.set_cons_zero, List.set_cons_succ]
      refine wpAnyH_take (i := 14) (v := ?vc14) rfl (by kernel_rfl) (by kernel_rfl) (by kernel_rfl) (fun _ _ _ h => h) (Or.inl ⟨by rfl, ?yc14⟩) (by assumption) ?rc14
      case yc14 =>
        intro w hSw
        (try dsimp only at hSw)
        go_simp
        first | done | with_reducible rfl
      try simp only [Act.put, List.getElem_toArray, List.getElem_cons_zero, List.getElem_cons_succ, List.setIfInBounds_toArray, List.set_cons_zero, List.set_cons_succ]
      refine wpAnyH_take (i := 15) (v := ?vc15) rfl (by kernel_rfl) (by kernel_rfl) (by kernel_rfl) (fun _ _ _ h => h) (Or.inl ⟨by rfl, ?yc15⟩) (by assumption) ?rc15
      case yc15 =>
        intro w hSw
        (try dsimp only at hSw)
        go_simp
        first | done | with_reducible rfl
      try simp only [Act.put, List.getElem_toArray, List.getElem_cons_zero, List.getElem_cons_succ, List.setIfInBounds_toArray, List.set_cons_zero, List.set_cons_succ]
      refine wpAnyH_take (i := 16) (v := ?vc16) rfl (by kernel_rfl) (by kernel_rfl) (by kernel_rfl) (fun _ _ _ h => h) (Or.inl ⟨by rfl, ?yc16⟩) (by assumption) ?rc16
      case yc16 =>
        intro w hSw
        (try dsimp only at hSw)
        go_simp
        first | done | with_reducible rfl
      try simp only [Act.put, List.getElem_toArray, List.getElem_cons_zero, List.getElem_cons_succ, List.setIfInBounds_toArray, List.set_cons_zero, List.set_cons_succ]
      refine wpAnyH_take (i := 18) (v := ?vc18) rfl (by kernel_rfl) (by kernel_rfl) (by kernel_rfl) (fun _ _ _ h => h) (Or.inl ⟨by rfl, ?yc18⟩) (by assumption) ?rc18
      case yc18 =>
        intro w hSw
        (try dsimp only at hSw)
        go_simp
        first | done | with_reducible rfl
      try simp only [Act.put, List.getElem_toArray, List.getElem_cons_zero, List.getElem_cons_succ, List.setIfInBounds_toArray, List.set_cons_zero, List.set_cons_succ]
      refine wpAnyH_take (i := 19) (v := ?vc19) rfl (by kernel_rfl) (by kernel_rfl) (by kernel_rfl) (fun _ _ _ h => h) (Or.inl ⟨by rfl, ?yc19⟩) (by assumption) ?rc19
      case yc19 =>
        intro w hSw
        (try dsimp only at hSw)
        go_simp
        first | done | with_reducible rfl
      try simp only [Act.put, List.getElem_toArray, List.getElem_cons_zero, List.getElem_cons_succ, List.setIfInBounds_toArray, List.set_cons_zero, List.set_cons_succ]
      refine wpAnyH_ready (rs := [17]) (by kernel_rfl) (by simp) ?_
      refine AllReadyH.cons rfl (fun K hK => ?_) AllReadyH.nil
      go_simp
      refine HDEAD.out.mono ?_
      rintro e wq ⟨rfl, rfl⟩
      go_wp2_with fail
      refine hK.out _ _ hHeld (fun hHeld => ?_)
      clear hK K
      try simp only [Act.put, List.getElem_toArray, List.getElem_cons_zero, List.getElem_cons_succ, List.setIfInBounds_toArray, List.set_cons_zero, List.set_cons_succ]
      refine wpAnyH_take (i := 20) (v := ?vc20) rfl (by kernel_rfl) (by kernel_rfl) (by kernel_rfl) (fun _ _ _ h => h) (Or.inl ⟨by rfl, ?yc20⟩) (by assumption) ?rc20
      case yc20 =>
        intro w hSw
        (try dsimp only at hSw)
        go_simp
        first | done | with_reducible rfl
      try simp only [Act.put, List.getElem_toArray, List.getElem_cons_zero, List.getElem_cons_succ, List.setIfInBounds_toArray, List.set_cons_zero, List.set_cons_succ]
      refine wpAnyH_take (i := 21) (v := ?vc21) rfl (by kernel_rfl) (by kernel_rfl) (by kernel_rfl) (fun _ _ _ h => h) (Or.inl ⟨by rfl, ?yc21⟩) (by assumption) ?rc21
      case yc21 =>
        intro w hSw
        (try dsimp only at hSw)
        go_simp
        first | done | with_reducible rfl
      try simp only [Act.put, List.getElem_toArray, List.getElem_cons_zero, List.getElem_cons_succ, List.setIfInBounds_toArray, List.set_cons_zero, List.set_cons_succ]
      refine wpAnyH_take (i := 22) (v := ?vc22) rfl (by kernel_rfl) (by kernel_rfl) (by kernel_rfl) (fun _ _ _ h => h) (Or.inl ⟨by rfl, ?yc22⟩) (by assumption) ?rc22
      case yc22 =>
        intro w hSw
        (try dsimp only at hSw)
        go_simp
        first | done | with_reducible rfl
      try simp only [Act.put, List.getElem_toArray, List.getElem_cons_zero, List.getElem_cons_succ, List.setIfInBounds_toArray, List.set_cons_zero, List.set_cons_succ]
      refine wpAnyH_take (i := 23) (v := ?vc23) rfl (by kernel_rfl) (by kernel_rfl) (by kernel_rfl) (fun _ _ _ h => h) (Or.inl ⟨by rfl, ?yc23⟩) (by assumption) ?rc23
      case yc23 =>
        intro w hSw
        (try dsimp only at hSw)
        go_simp
        first | done | with_reducible rfl
      try simp only [Act.put, List.getElem_toArray, List.getElem_cons_zero, List.getElem_cons_succ, List.setIfInBounds_toArray, List.set_cons_zero, List.set_cons_succ]
      refine wpAnyH_take (i := 25) (v := ?vc25) rfl (by kernel_rfl) (by kernel_rfl) (by kernel_rfl) (fun _ _ _ h => h) (Or.inl ⟨by rfl, ?yc25⟩) (by assumption) ?rc25
      case yc25 =>
        intro w hSw
        (try dsimp only at hSw)
        go_simp
        first | done | with_reducible rfl
      try simp only [Act.put, List.getElem_toArray, List.getElem_cons_zero, List.getElem_cons_succ, List.setIfInBounds_toArray, List.set_cons_zero, List.set_cons_succ]
      refine wpAnyH_take (i := 26) (v := ?vc26) rfl (by kernel_rfl) (by kernel_rfl) (by kernel_rfl) (fun _ _ _ h => h) (Or.inl ⟨by rfl, ?yc26⟩) (by assumption) ?rc26
      case yc26 =>
        intro w hSw
        (try dsimp only at hSw)
        go_simp
        first | done | with_reducible rfl
      try simp only [Act.put, List.getElem_toArray, List.getElem_cons_zero, List.getElem_cons_succ, List.setIfInBounds_toArray, List.set_cons_zero, List.set_cons_succ]
      refine wpAnyH_take (i := 27) (v := ?vc27) rfl (by kernel_rfl) (by kernel_rfl) (by kernel_rfl) (fun _ _ _ h => h) (Or.inl ⟨by rfl, ?yc27⟩) (by assumption) ?rc27
      case yc27 =>
        intro w hSw
        (try dsimp only at hSw)
        go_simp
        first | done | with_reducible rfl
      try simp only [Act.put, List.getElem_toArray, List.getElem_cons_zero, List.getElem_cons_succ, List.setIfInBounds_toArray, List.set_cons_zero, List.set_cons_succ]
      refine wpAnyH_take (i := 28) (v := ?vc28) rfl (by kernel_rfl) (by kernel_rfl) (by kernel_rfl) (fun _ _ _ h => h) (Or.inl ⟨by rfl, ?yc28⟩) (by assumption) ?rc28
      case yc28 =>
        intro w hSw
        (try dsimp only at hSw)
        go_simp
        first | done | with_reducible rfl
      try simp only [Act.put, List.getElem_toArray, List.getElem_cons_zero, List.getElem_cons_succ, List.setIfInBounds_toArray, List.set_cons_zero, List.set_cons_succ]
      refine wpAnyH_take (i := 29) (v := ?vc29) rfl (by kernel_rfl) (by kernel_rfl) (by kernel_rfl) (fun _ _ _ h => h) (Or.inl ⟨by rfl, ?yc29⟩) (by assumption) ?rc29
      case yc29 =>
        intro w hSw
        (try dsimp only at hSw)
        go_simp
        first | done | with_reducible rfl
      try simp only [Act.put, List.getElem_toArray, List.getElem_cons_zero, List.getElem_cons_succ, List.setIfInBounds_toArray, List.set_cons_zero, List.set_cons_succ]
      refine wpAnyH_take (i := 30) (v := ?vc30) rfl (by kernel_rfl) (by kernel_rfl) (by kernel_rfl) (fun _ _ _ h => h) (Or.inl ⟨by rfl, ?yc30⟩) (by assumption) ?rc30
      case yc30 =>
        intro w hSw
        (try dsimp only at hSw)
        go_simp
        first | done | with_reducible rfl
      try simp only [Act.put, List.getElem_toArray, List.getElem_cons_zero, List.getElem_cons_succ, List.setIfInBounds_toArray, List.set_cons_zero, List.set_cons_succ]
      refine wpAnyH_ready (rs := [24]) (by kernel_rfl) (by simp) ?_
      refine AllReadyH.cons rfl (fun K hK => ?_) AllReadyH.nil
      go_simp
      refine HRD.out.mono ?_
      rintro e w5 ⟨A5, c5, rfl, hs5, hb5⟩
      have HS5 := Lib.hid hs5
      have HB5 := Lib.hid hb5
      clear hs5 hb5
      go_wp2_with fail
      refine hK.out _ _ ⟨trivial, trivial⟩ (fun hHeld => ?_)
      clear hK K
      try simp only [Act.put, List.getElem_toArray, List.getElem_cons_zero, List.getElem_cons_succ, List.setIfInBounds_toArray, List.set_cons_zero, List.set_cons_succ]
      refine wpAnyH_ready (rs := [31]) (by kernel_rfl) (by simp) ?_
      refine AllReadyH.cons rfl (fun K hK => ?_) AllReadyH.nil
      go_simp
      refine (HSAME.out _ A5 c5 HB5.out HS5.out).mono ?_
      rintro e w6 ⟨rfl, hb6⟩
      have HB6 := Lib.hid (HB5.out.trans (hb6.mono HB5.out.size))
      clear hb6
      go_wp2_with fail
      refine hK.out _ _ ⟨trivial, trivial⟩ (fun hHeld => ?_)
      clear hK K
      try simp only [Act.put, List.getElem_toArray, List.getElem_cons_zero, List.getElem_cons_succ, List.setIfInBounds_toArray, List.set_cons_zero, List.set_cons_succ]
      refine wpAnyH_take (i := 32) (v := ?vc32) rfl (by kernel_rfl) (by kernel_rfl) (by kernel_rfl) (fun _ _ _ h => h) (Or.inl ⟨by rfl, ?yc32⟩) (by assumption) ?rc32
      case yc32 =>
        intro w hSw
        (try dsimp only at hSw)
        go_simp
        first | done | with_reducible rfl
      try simp only [Act.put, List.getElem_toArray, List.getElem_cons_zero, List.getElem_cons_succ, List.setIfInBounds_toArray, List.set_cons_zero, List.set_cons_succ]
      refine wpAnyH_take (i := 33) (v := ?vc33) rfl (by kernel_rfl) (by kernel_rfl) (by kernel_rfl) (fun _ _ _ h => h) (Or.inl ⟨by rfl, ?yc33⟩) (by assumption) ?rc33
      case yc33 =>
        intro w hSw
        (try dsimp only at hSw)
        go_simp
        first | done | with_reducible rfl
      try simp only [Act.put, List.getElem_toArray, List.getElem_cons_zero, List.getElem_cons_succ, List.setIfInBounds_toArray, List.set_cons_zero, List.set_cons_succ]
      refine wpAnyH_done (by kernel_rfl) ?_ _
      have HB7 := Lib.hid (show Below w3.heap.size w3 w6 from ⟨HB6.out.os, HB6.out.tape, HB6.out.output, HB6.out.size, HB6.out.block⟩)
      clear HB6 HB5 HS5 hHeld
      have HT6 := Lib.hid (HT3.out.trans (Turn.below HB7.out))
      have HD6 := Lib.hid (HD3.out.below HB7.out)
      obtain ⟨y1, y2, y3, y4, y5, y6, y7⟩ := dP_dead qb 0
      have Y2 := Lib.hid y2
      have Y3 := Lib.hid y3
      have Y4 := Lib.hid y4
      have Y5 := Lib.hid y5
      have Y6 := Lib.hid y6
      have Y7 := Lib.hid y7
      have HSA := Lib.hid (HD6.out.append (m := 0) (b := []) (by omega) (by omega) 0 (SlAt.none w6) rfl (by decide) (fun h => absurd h (by simp)))
      rw [y1, y2] at HSA
      clear HD3 HT3 HRD HSAME HDEAD HB7 y1 y2 y3 y4 y5 y6 y7
      go_wp2_with fail
      refine HSA.out.mono ?_
      rintro e w7 ⟨rfl, who7, hD7, ht7⟩
      have HT7 := Lib.hid (HT6.out.trans ht7)
      have HSB := Lib.hid (hD7.sync (by omega) (by have := HM.out; simp; omega) 0)
      rw [Y3.out, Y4.out] at HSB
      clear hD7 ht7 HSA HT6 HD6
      go_wp2_with fail
      refine HSB.out.mono ?_
      rintro e w8 ⟨rfl, who8, hD8, ht8⟩
      have HT8 := Lib.hid (HT7.out.trans ht8)
      have HSC := Lib.hid (hD8.cut (by omega) (by have := HM.out; simp; omega) 0 0)
      rw [Y5.out, Y6.out] at HSC
      clear hD8 ht8 HSB HT7
      go_wp2_with fail
      refine HSC.out.mono ?_
      rintro e w9 ⟨rfl, who9, hD9, ht9⟩
      have HT9 := Lib.hid (HT8.out.trans ht9)
      have HSD := Lib.hid (hD9.sync (by omega) (by have := HM.out; simp; omega) 1)
      rw [Y7.out] at HSD
      clear hD9 ht9 HSC HT8
      go_wp2_with fail
      refine HSD.out.mono ?_
      rintro e w10 ⟨rfl, who10, hD10, ht10⟩
      have HT10 := Lib.hid (HT9.out.trans ht10)
      have HK := Lib.hid (known_any w10)
      clear hD10 ht10 HSD HT9
      go_wp2_with fail
      refine HK.out.mono ?_
      rintro e w12 ⟨rfl, hb12⟩
      go_wp2_with fail
      go_ret
      have hz := HT10.out.zero (by omega)
      exact ⟨rfl, hz.trans (hb12.mono hz.size)⟩
  · have q0 : ((600 : Int) < (b.length : Int)) = True := eq_true (by omega)
    have H1 := Lib.hid (known_any w)
    clear hs
    go_enter Try.func5, Try.ntmps5
    go_wp2_with fail
    refine H1.out.mono ?_
    rintro e w1 ⟨rfl, hb⟩
    go_wp2_with fail
    go_ret
    exact ⟨rfl, hb⟩
end Go.Proofs.Ytjobohhbkcjhnaa
