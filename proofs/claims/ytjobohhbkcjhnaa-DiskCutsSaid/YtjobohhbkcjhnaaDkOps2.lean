/-
  What is done to a disk: Cut, Sync, Arm.
-/
import Derived.Test.YtjobohhbkcjhnaaDkOps
namespace Go.Proofs.Ytjobohhbkcjhnaa
open Go Go.RowKit Go.Shelf Go.Proofs

theorem fresh_eq {who : Nat → Nat} {w : World} (h : Fresh who w) : Fresh who w := h
/-- What stands at an area that is there. -/
theorem area_of {d : DDk} {L : List AX} {i : Nat} {x : AX} (h5 : d.as = L.map AX.ar) (hx : L[i]? = some x) (hxo : x.ok) : d.readL (i : Int) = x.c ∧ d.lastL (i : Int) = x.l := by
  have hi := (List.getElem?_eq_some_iff.1 hx).1
  have hl : d.as.length = L.length := by rw [h5, List.length_map]
  have hh : d.has (i : Int) = true := by unfold DDk.has; simp; omega
  have e := ar_at h5 hx
  constructor
  · unfold DDk.readL
    rw [if_pos hh, Int.toNat_natCast, e]
    exact hxo.1.symm
  · unfold DDk.lastL
    rw [if_pos hh, Int.toNat_natCast, e]; rfl

set_option maxRecDepth 100000 in
set_option maxHeartbeats 16000000 in
theorem cut_disk (base : Nat) (who : Nat → Nat) (w : World) (T g : Nat) (d : DDk) (n : Nat) (a k : Int) (hT : 0 < T) (h : DiskAt base who w T g d) (hd : d.fits n) (hn : n ≤ 1000000) (hf : Fresh who w) (hb : base ≤ w.heap.size) :
    Calls Try.prog 28 #[.pointer (some ⟨g, 0, none⟩), .int .i64 a, .int .i64 k] w fun e w' => e = .returned (.int .i64 (cutE d a k : Nat)) ∧ DkW base who w T g (cutD d a k) w' := by
  have HR := Lib.hid (refusal_any base who w T g d a n h hd)
  have HH := Lib.hid h
  have HFR := Lib.hid hf
  by_cases hmay : d.may a = 0
  · rw [hmay] at HR
    obtain ⟨hdead, ha0, hal⟩ := may_zero hmay
    obtain ⟨i, rfl⟩ : ∃ i : Nat, a = i := ⟨a.toNat, by omega⟩
    have hal : i < d.as.length := hal
    obtain ⟨ga, cap, L, h1, h2, h3, h4, h5, h6, h7⟩ := h
    obtain ⟨hlt, c0, c2, c3, c4, _, _, _⟩ := h1.cells
    have hll : d.as.length = L.length := by rw [h5, List.length_map]
    have hi : i < L.length := by omega
    obtain ⟨x, hx⟩ : ∃ x, L[i]? = some x := ⟨_, List.getElem?_eq_getElem hi⟩
    have hxo := h6 x (List.mem_of_getElem? hx)
    have hfx := fits_at hd (ar_at h5 hx)
    have hcl : x.c.length ≤ n := by rw [hxo.1]; have := x.ar.now_length; omega
    have hrd := (area_of h5 hx hxo).1
    obtain ⟨Ac, cc, hcv, _⟩ := row_slice (h4.each i x hx).c
    have hcc := (h4.cells hx).1
    rw [hcv, Nat.mul_comm] at hcc
    by_cases hbad : cutBad d i k
    · have HE := Lib.hid (show cutE d i k = 2 by unfold cutE; rw [if_neg (by omega), if_pos hbad])
      have HD := Lib.hid (show cutD d i k = d by unfold cutD; rw [if_neg (by omega), if_pos hbad])
      rw [HE.out, HD.out]
      unfold cutBad at hbad
      rw [hrd] at hbad
      by_cases hk0 : k < 0
      · clear h1 h2 h3 h4 h5 h6 h7 c0 c2 c3 c4 hal hmay ha0 hf hd hx hxo hcv hrd hbad hcc
        go_enter Try.func28, Try.ntmps28
        go_wp2_with fail
        refine HR.out.mono ?_
        rintro e w' ⟨rfl, hw⟩
        have hw := hw.symm
        subst hw
        go_wp2_with fail
        go_ret
        exact ⟨rfl, DkW.refl HH.out HFR.out⟩
      · have hk1 : (x.c.length : Int) < k := by omega
        have hk3 : decide (k < 0) = false := decide_eq_false hk0
        generalize x.c.length = xl at *
        clear h1 h2 h3 h4 h5 h6 h7 c0 c2 c4 hal hmay ha0 hf hd hx hxo hcv hrd hbad
        go_enter Try.func28, Try.ntmps28
        go_wp2_with fail
        refine HR.out.mono ?_
        rintro e w' ⟨rfl, hw⟩
        have hw := hw.symm
        subst hw
        go_wp2_with fail
        refine (size_any Ac xl cc _).mono ?_
        rintro e w' ⟨rfl, hw⟩
        have hw := hw.symm
        subst hw
        go_wp2_with fail
        go_ret
        exact ⟨rfl, DkW.refl HH.out HFR.out⟩
    · have hbad' := hbad
      unfold cutBad at hbad'
      rw [hrd] at hbad'
      obtain ⟨m, rfl⟩ : ∃ m : Nat, k = m := ⟨k.toNat, by omega⟩
      have HE := Lib.hid (show cutE d i m = (d.cut i m).state by unfold cutE; rw [if_neg (by omega), if_neg hbad]; rfl)
      have HD := Lib.hid (show cutD d i m = d.cut i m by unfold cutD; rw [if_neg (by omega), if_neg hbad]; rfl)
      rw [HE.out, HD.out]
      have hk1 : (m : Int) ≤ (x.c.length : Int) := by omega
      have hk3 : decide ((m : Int) < 0) = false := decide_eq_false (by omega)
      obtain ⟨sp, hsp⟩ : ∃ sp, spendN d.pw 1 = sp := ⟨_, rfl⟩
      have HSP := Lib.hid (spend_any g 1 d.room d.pw d.dead _ w h1 hd.2.2.1 (by omega))
      rw [hsp] at HSP
      have HCU := Lib.hid (show d.cut i m = (d.after 1).add i (if 0 < sp then [.cut m] else []) by unfold DDk.cut; rw [spend_eq, hsp])
      by_cases hs0 : 0 < sp
      · have q4 : (0 : Int) < (sp : Int) := by omega
        have HNEXT := Lib.hid (fun (w2 : World) (hh2 : HeadAt w2 g (afterP d.pw 1) (afterD d.pw d.dead 1) (.slice (some ⟨ga, 0, none⟩) L.length cap) d.room) (ho2 : OnlyB w g w2) =>
          show Calls Try.prog 41 #[.pointer (some ⟨ga, i * 3, none⟩), .iface 81 (.int .i64 (m : Int))] w2 (fun e w' => e = .returned (.tuple #[]) ∧ DkW base who w T g (d.cut i m) w') from by
            obtain ⟨e1, e2, e3, e4⟩ := disk_spent 1 hT h2 h4 hdead hh2 ho2
            refine (disk_change (n := n) (SX.cut m) x (after_fits hd 1) hn e1 h2 h3 e2 (by rw [(after_eq d 1).2.2.1]; exact h5) h6 e3 hx (Fresh.only HFR.out ho2) (show m ≤ 100000000 by omega) ⟨by omega, trivial⟩ (by show 0 < 1; omega) (by show 1 ≤ _; omega) (by rw [ho2.size]; omega)).mono ?_
            rintro e w' ⟨rfl, hk, hc⟩
            refine ⟨rfl, DkW.trans e4 ?_⟩
            rw [HCU.out, if_pos hs0]; exact hk)
        generalize x.c.length = xl at *
        clear h1 h2 h3 h4 h5 h6 h7 c0 c2 c4 hal hmay ha0 hf hd hx hxo hcv hrd hbad hbad' HE HD
        go_enter Try.func28, Try.ntmps28
        go_wp2_with fail
        refine HR.out.mono ?_
        rintro e w' ⟨rfl, hw⟩
        have hw := hw.symm
        subst hw
        go_wp2_with fail
        refine (size_any Ac xl cc _).mono ?_
        rintro e w' ⟨rfl, hw⟩
        have hw := hw.symm
        subst hw
        go_wp2_with fail
        refine HSP.out.mono ?_
        rintro e w2 ⟨rfl, hh2, ho2⟩
        have HN := Lib.hid (HNEXT.out w2 hh2 ho2)
        have c32 : w2.cell? ⟨g, 3, none⟩ = some (.slice (some ⟨ga, 0, none⟩) L.length cap) := hh2.cells.2.2.2.1
        clear hh2 ho2 c3
        go_wp2_with fail
        refine HN.out.mono ?_
        rintro e w4 ⟨rfl, hw⟩
        have HW := Lib.hid hw
        have HST := Lib.hid (stateD_any HW.out.choose_spec.1)
        clear hw
        go_wp2_with fail
        refine HST.out.mono ?_
        rintro e w5 ⟨rfl, hw5⟩
        have hw5 := hw5.symm
        subst hw5
        go_wp2_with fail
        go_ret
        exact ⟨rfl, HW.out⟩
      · obtain rfl : sp = 0 := by omega
        have HNEXT := Lib.hid (fun (w2 : World) (hh2 : HeadAt w2 g (afterP d.pw 1) (afterD d.pw d.dead 1) (.slice (some ⟨ga, 0, none⟩) L.length cap) d.room) (ho2 : OnlyB w g w2) => show DkW base who w T g (d.cut i m) w2 from by
          have hD := disk_spentD 1 hT h2 h3 h4 h5 h6 hdead hh2 ho2
          obtain ⟨e1, e2, e3, e4⟩ := disk_spent 1 hT h2 h4 hdead hh2 ho2
          have e5 := HCU.out
          rw [if_neg (by omega), add_nil] at e5
          rw [e5]
          exact ⟨who, hD, e4, Fresh.only HFR.out ho2⟩)
        generalize x.c.length = xl at *
        clear h1 h2 h3 h4 h5 h6 h7 c0 c2 c4 hal hmay ha0 hf hd hx hxo hcv hrd hbad hbad' HE HD
        go_enter Try.func28, Try.ntmps28
        go_wp2_with fail
        refine HR.out.mono ?_
        rintro e w' ⟨rfl, hw⟩
        have hw := hw.symm
        subst hw
        go_wp2_with fail
        refine (size_any Ac xl cc _).mono ?_
        rintro e w' ⟨rfl, hw⟩
        have hw := hw.symm
        subst hw
        go_wp2_with fail
        refine HSP.out.mono ?_
        rintro e w2 ⟨rfl, hh2, ho2⟩
        have HW := Lib.hid (HNEXT.out w2 hh2 ho2)
        have HST := Lib.hid (stateD_any HW.out.choose_spec.1)
        clear hh2 ho2 c3
        go_wp2_with fail
        refine HST.out.mono ?_
        rintro e w5 ⟨rfl, hw5⟩
        have hw5 := hw5.symm
        subst hw5
        go_wp2_with fail
        go_ret
        exact ⟨rfl, HW.out⟩
  · have HE := Lib.hid (show cutE d a k = d.may a by unfold cutE; rw [if_pos hmay])
    have HD := Lib.hid (show cutD d a k = d by unfold cutD; rw [if_pos hmay])
    rw [HE.out, HD.out]
    generalize d.may a = q at *
    have q1 : ((q : Int) != 0) = true := by simp [hmay]
    clear h hd hf
    go_enter Try.func28, Try.ntmps28
    go_wp2_with fail
    refine HR.out.mono ?_
    rintro e w' ⟨rfl, hw⟩
    have hw := hw.symm
    subst hw
    go_wp2_with fail
    go_ret
    exact ⟨rfl, DkW.refl HH.out HFR.out⟩

set_option maxRecDepth 100000 in
set_option maxHeartbeats 16000000 in
theorem sync_any (base : Nat) (who : Nat → Nat) (w : World) (T g : Nat) (d : DDk) (n : Nat) (a : Int) (hT : 0 < T) (h : DiskAt base who w T g d) (hd : d.fits n) (hn : n ≤ 1000000) (hf : Fresh who w) (hb : base ≤ w.heap.size) :
    Calls Try.prog 25 #[.pointer (some ⟨g, 0, none⟩), .int .i64 a] w fun e w' => e = .returned (.int .i64 (syncE d a : Nat)) ∧ DkW base who w T g (syncD d a) w' := by
  have HR := Lib.hid (refusal_any base who w T g d a n h hd)
  have HH := Lib.hid h
  have HFR := Lib.hid hf
  by_cases hmay : d.may a = 0
  · rw [hmay] at HR
    obtain ⟨hdead, ha0, hal⟩ := may_zero hmay
    obtain ⟨i, rfl⟩ : ∃ i : Nat, a = i := ⟨a.toNat, by omega⟩
    have hal : i < d.as.length := hal
    obtain ⟨ga, cap, L, h1, h2, h3, h4, h5, h6, h7⟩ := h
    have hll : d.as.length = L.length := by rw [h5, List.length_map]
    have hi : i < L.length := by omega
    obtain ⟨x, hx⟩ : ∃ x, L[i]? = some x := ⟨_, List.getElem?_eq_getElem hi⟩
    have hxo := h6 x (List.mem_of_getElem? hx)
    have hfx := fits_at hd (ar_at h5 hx)
    have HE := Lib.hid (show syncE d i = (d.sync i).state by unfold syncE; rw [if_neg (by omega)]; rfl)
    have HD := Lib.hid (show syncD d i = d.sync i by unfold syncD; rw [if_neg (by omega)]; rfl)
    rw [HE.out, HD.out]
    obtain ⟨sp, hsp⟩ : ∃ sp, spendN d.pw 1 = sp := ⟨_, rfl⟩
    have HSP := Lib.hid (spend_any g 1 d.room d.pw d.dead _ w h1 hd.2.2.1 (by omega))
    rw [hsp] at HSP
    have HCU := Lib.hid (show d.sync i = (if 0 < sp then (d.after 1).settle i else d.after 1) by unfold DDk.sync; rw [spend_eq, hsp])
    by_cases hs0 : 0 < sp
    · have q4 : (0 : Int) < (sp : Int) := by omega
      have h8 : L.length ≤ 8 := by have := hd.1; omega
      have HNEXT := Lib.hid (fun (w2 : World) (hh2 : HeadAt w2 g (afterP d.pw 1) (afterD d.pw d.dead 1) (.slice (some ⟨ga, 0, none⟩) L.length cap) d.room) (ho2 : OnlyB w g w2) =>
        show Calls Try.prog 44 #[.pointer (some ⟨ga, i * 3, none⟩), .int .i64 9223372036854775807] w2 (fun e w' => e = .returned (.tuple #[]) ∧ DkW base who w T g (d.sync i) w') from by
          obtain ⟨e1, e2, e3, e4⟩ := disk_spent 1 hT h2 h4 hdead hh2 ho2
          have hpl : x.p.length ≤ n := by have := hxo.2.2; have e : x.ar.p.length = (stsX x.p).length := rfl; omega
          have e6 : x.ar.p.length = (stsX x.p).length := rfl
          have e7 : x.ar.l.length = x.l.length := rfl
          have := settle_any base who w2 T ga cap i 9223372036854775807 L x e2 hx (Fresh.only HFR.out ho2) hxo.2.1 (by omega) (by omega) (Nat.le_refl _) (by rw [ho2.size]; omega)
          rw [Nat.mul_comm i 3]
          refine this.mono ?_
          rintro e w' ⟨rfl, hk⟩
          refine ⟨rfl, DkW.trans e4 ?_⟩
          rw [HCU.out, if_pos hs0]
          rw [List.take_of_length_le (by omega)] at hk
          exact disk_settled e1 h2 h3 (by rw [(after_eq d 1).2.2.1]; exact h5) h6 e3 h8 hx hk)
      clear h1 h2 h3 h4 h5 h6 h7 hal hmay ha0 hf hd hx hxo HE HD
      go_enter Try.func25, Try.ntmps25
      go_wp2_with fail
      refine HR.out.mono ?_
      rintro e w' ⟨rfl, hw⟩
      have hw := hw.symm
      subst hw
      go_wp2_with fail
      refine HSP.out.mono ?_
      rintro e w2 ⟨rfl, hh2, ho2⟩
      have HN := Lib.hid (HNEXT.out w2 hh2 ho2)
      have c32 : w2.cell? ⟨g, 3, none⟩ = some (.slice (some ⟨ga, 0, none⟩) L.length cap) := hh2.cells.2.2.2.1
      clear hh2 ho2
      go_wp2_with fail
      refine HN.out.mono ?_
      rintro e w4 ⟨rfl, hw⟩
      have HW := Lib.hid hw
      have HST := Lib.hid (stateD_any HW.out.choose_spec.1)
      clear hw
      go_wp2_with fail
      refine HST.out.mono ?_
      rintro e w5 ⟨rfl, hw5⟩
      have hw5 := hw5.symm
      subst hw5
      go_wp2_with fail
      go_ret
      exact ⟨rfl, HW.out⟩
    · obtain rfl : sp = 0 := by omega
      have HNEXT := Lib.hid (fun (w2 : World) (hh2 : HeadAt w2 g (afterP d.pw 1) (afterD d.pw d.dead 1) (.slice (some ⟨ga, 0, none⟩) L.length cap) d.room) (ho2 : OnlyB w g w2) => show DkW base who w T g (d.sync i) w2 from by
        have hD := disk_spentD 1 hT h2 h3 h4 h5 h6 hdead hh2 ho2
        obtain ⟨e1, e2, e3, e4⟩ := disk_spent 1 hT h2 h4 hdead hh2 ho2
        rw [HCU.out, if_neg (by omega)]
        exact ⟨who, hD, e4, Fresh.only HFR.out ho2⟩)
      clear h1 h2 h3 h4 h5 h6 h7 hal hmay ha0 hf hd hx hxo HE HD
      go_enter Try.func25, Try.ntmps25
      go_wp2_with fail
      refine HR.out.mono ?_
      rintro e w' ⟨rfl, hw⟩
      have hw := hw.symm
      subst hw
      go_wp2_with fail
      refine HSP.out.mono ?_
      rintro e w2 ⟨rfl, hh2, ho2⟩
      have HW := Lib.hid (HNEXT.out w2 hh2 ho2)
      have HST := Lib.hid (stateD_any HW.out.choose_spec.1)
      clear hh2 ho2
      go_wp2_with fail
      refine HST.out.mono ?_
      rintro e w5 ⟨rfl, hw5⟩
      have hw5 := hw5.symm
      subst hw5
      go_wp2_with fail
      go_ret
      exact ⟨rfl, HW.out⟩
  · have HE := Lib.hid (show syncE d a = d.may a by unfold syncE; rw [if_pos hmay])
    have HD := Lib.hid (show syncD d a = d by unfold syncD; rw [if_pos hmay])
    rw [HE.out, HD.out]
    generalize d.may a = q at *
    have q1 : ((q : Int) != 0) = true := by simp [hmay]
    clear h hd hf
    go_enter Try.func25, Try.ntmps25
    go_wp2_with fail
    refine HR.out.mono ?_
    rintro e w' ⟨rfl, hw⟩
    have hw := hw.symm
    subst hw
    go_wp2_with fail
    go_ret
    exact ⟨rfl, DkW.refl HH.out HFR.out⟩
theorem sync_nil (a : Value) (w : World) : Calls Try.prog 25 #[.pointer none, a] w fun e w' => e = .returned (.int .i64 1) ∧ w' = w := by
  go_enter Try.func25, Try.ntmps25
  go_wp2_with fail
  refine (refusal_nil _ _).mono ?_
  rintro e w' ⟨rfl, rfl⟩
  go_wp2_with fail
  go_ret
  exact ⟨rfl, rfl⟩
end Go.Proofs.Ytjobohhbkcjhnaa
