/-
  What is done to a disk: Append, Cut, Sync, Arm, Restart. · What is done to a disk: Cut, Sync, Arm. · What is done to a disk: Arm, Restart; Read, Lasting; New. · What is done to a disk: Restart.
-/
import Derived.Test.YtojkifcclgecoaaDkRest
namespace Go.Proofs.Ytojkifcclgecoaa.Dk
open Go Go.RowKit Go.Shelf Go.Proofs

theorem spend_eq (d : DDk) (n : Nat) : d.spend n = spendN d.pw n := by unfold DDk.spend spendN; cases d.pw <;> rfl
theorem after_eq (d : DDk) (n : Nat) : (d.after n).pw = afterP d.pw n ∧ (d.after n).dead = afterD d.pw d.dead n ∧ (d.after n).as = d.as ∧ (d.after n).room = d.room := by
  unfold DDk.after afterP afterD
  cases h : d.pw <;> simp [h]
theorem after_fits {d : DDk} {m : Nat} (h : d.fits m) (n : Nat) : (d.after n).fits m := by
  obtain ⟨e1, e2, e3, e4⟩ := after_eq d n
  refine ⟨by rw [e3]; exact h.1, by rw [e4]; exact h.2.1, fun k hk => ?_, by rw [e3]; exact h.2.2.2⟩
  rw [e1] at hk
  unfold afterP at hk
  cases hp : d.pw with
  | none => rw [hp] at hk; cases hk
  | some q => rw [hp] at hk; cases hk; have := h.2.2.1 q hp; omega
theorem after_sane {d : DDk} (h : d.dead = false) (n : Nat) : (d.after n).sane := by
  obtain ⟨e1, e2, _, _⟩ := after_eq d n
  unfold DDk.sane
  rw [e1, e2]
  unfold afterP afterD
  cases d.pw with
  | none => simp [h]
  | some k => simp; omega
theorem may_zero {d : DDk} {a : Int} (h : d.may a = 0) : d.dead = false ∧ 0 ≤ a ∧ a.toNat < d.as.length := by
  unfold DDk.may DDk.state stateN at h
  split at h
  · rename_i hh
    unfold DDk.has at hh
    simp only [Bool.and_eq_true, decide_eq_true_eq] at hh
    refine ⟨?_, hh.1, by omega⟩
    cases hd : d.dead with
    | false => rfl
    | true => rw [hd] at h; simp at h
  · cases h
theorem add_nil (d : DDk) (a : Nat) : d.add a [] = d := by
  unfold DDk.add addAt
  have : d.as.modify a (fun x => ⟨x.l, x.p ++ []⟩) = d.as := by
    apply List.ext_getElem?
    intro j
    rw [List.getElem?_modify]
    cases d.as[j]? <;> simp
  rw [this]
theorem DkW.refl {base : Nat} {who : Nat → Nat} {w : World} {T g : Nat} {d : DDk} (h : DiskAt base who w T g d) (hf : Fresh who w) : DkW base who w T g d w := ⟨who, h, Turn.refl _ _ _ _, hf⟩
theorem DkW.trans {base : Nat} {who who1 : Nat → Nat} {w w1 w2 : World} {T g : Nat} {d : DDk} (h : Turn T (T + 26) who w who1 w1) (k : DkW base who1 w1 T g d w2) : DkW base who w T g d w2 := by
  obtain ⟨who2, h1, h2, h3⟩ := k
  exact ⟨who2, h1, h.trans h2, h3⟩
/-- Behind spending. -/
theorem disk_spent {base : Nat} {who : Nat → Nat} {w w' : World} {T g ga cap : Nat} {L : List AX} {d : DDk} (m : Nat) (hT : 0 < T) (h2 : who g = T) (h4 : AreasAt base who w T ga cap L) (h7 : d.dead = false) (hh : HeadAt w' g (afterP d.pw m) (afterD d.pw d.dead m) (.slice (some ⟨ga, 0, none⟩) L.length cap) d.room) (ho : OnlyB w g w') :
    HeadAt w' g (d.after m).pw (d.after m).dead (.slice (some ⟨ga, 0, none⟩) L.length cap) (d.after m).room ∧ AreasAt base who w' T ga cap L ∧ (d.after m).sane ∧ Turn T (T + 26) who w who w' := by
  obtain ⟨e1, e2, e3, e4⟩ := after_eq d m
  rw [e1, e2, e4]
  exact ⟨hh, OnlyB.areas h4 ho hT h2, after_sane h7 m, ho.turn h2⟩
theorem Fresh.only {who : Nat → Nat} {w w' : World} {g : Nat} (h : Fresh who w) (ho : OnlyB w g w') : Fresh who w' := h.size (by rw [ho.size]; exact Nat.le_refl _)

theorem stateD_any {base : Nat} {who : Nat → Nat} {w : World} {T g : Nat} {d : DDk} (h : DiskAt base who w T g d) : Calls Try.prog 59 #[.pointer (some ⟨g, 0, none⟩)] w fun e w' => e = .returned (.int .i64 (d.state : Nat)) ∧ w' = w := by
  obtain ⟨ga, cap, L, h1, _⟩ := h
  exact state_any g d.room d.pw d.dead _ w h1
theorem belowN (B : Nat) (w : World) (n : Nat) : Below B w (w.drewN n) := ⟨rfl, rfl, rfl, Nat.le_refl _, fun _ _ => rfl⟩
theorem disk_spentD {base : Nat} {who : Nat → Nat} {w w' : World} {T g ga cap : Nat} {L : List AX} {d : DDk} (m : Nat) (hT : 0 < T) (h2 : who g = T) (h3 : base ≤ g) (h4 : AreasAt base who w T ga cap L) (h5 : d.as = L.map AX.ar) (h6 : ∀ x ∈ L, x.ok) (h7 : d.dead = false) (hh : HeadAt w' g (afterP d.pw m) (afterD d.pw d.dead m) (.slice (some ⟨ga, 0, none⟩) L.length cap) d.room) (ho : OnlyB w g w') :
    DiskAt base who w' T g (d.after m) := by
  obtain ⟨k1, k2, k3, _⟩ := disk_spent m hT h2 h4 h7 hh ho
  exact ⟨ga, cap, L, k1, h2, h3, k2, by rw [(after_eq d m).2.2.1]; exact h5, h6, k3⟩
/-- A step into an area of a disk. -/
theorem disk_change {base : Nat} {who : Nat → Nat} {w : World} {T g ga cap i n : Nat} {L : List AX} {d : DDk} (s : SX) (x : AX) (hd : d.fits n) (hn : n ≤ 1000000) (h1 : HeadAt w g d.pw d.dead (.slice (some ⟨ga, 0, none⟩) L.length cap) d.room) (h2 : who g = T) (h3 : base ≤ g) (h4 : AreasAt base who w T ga cap L) (h5 : d.as = L.map AX.ar) (h6 : ∀ x ∈ L, x.ok) (h7 : d.sane) (hx : L[i]? = some x) (hf : Fresh who w) (hs : s.at_ who w) (hok : okS x.c s.sts) (h0 : 0 < s.sts.length) (hsl : s.sts.length ≤ 1000000) (hb : base ≤ w.heap.size) :
    Calls Try.prog 57 #[.pointer (some ⟨ga, i * 3, none⟩), s.v] w fun e w' => e = .returned (.tuple #[]) ∧ DkW base who w T g (d.add i s.sts) w' ∧ w'.cell? ⟨g, 3, none⟩ = w.cell? ⟨g, 3, none⟩ := by
  have hxo := h6 x (List.mem_of_getElem? hx)
  have hfx := fits_at hd (ar_at h5 hx)
  have hcl : x.c.length ≤ n := by rw [hxo.1]; have := x.ar.now_length; omega
  have hpl : x.p.length ≤ n := by have := hxo.2.2; have e : x.ar.p.length = (stsX x.p).length := rfl; omega
  have h8 : L.length ≤ 8 := by have := hd.1; rw [h5, List.length_map] at this; exact this
  rw [Nat.mul_comm i 3]
  refine (change_any base who w T ga cap i L x s h4 hx hf hs hok (by omega) (by omega) hb).mono ?_
  rintro e w' ⟨rfl, hc⟩
  have hw := disk_changed h1 h2 h3 h5 h6 h7 h8 hx hok h0 hc
  obtain ⟨_, _, _, _, ht, _⟩ := hc
  exact ⟨rfl, hw, World.cell?_of_block (a := ⟨g, 3, none⟩) (ht.block g h1.cells.1 (by rw [h2]; omega))⟩
theorem append_sp {d : DDk} {i : Nat} {b : Bs} {sp : Nat} (h : spendN d.pw b.length = sp) : (d.after b.length).add i ((b.take sp).map .byte) = d.append i b := by
  unfold DDk.append
  rw [spend_eq, h]

set_option maxRecDepth 100000 in
set_option maxHeartbeats 16000000 in
theorem append_any (base : Nat) (who : Nat → Nat) (w : World) (T g : Nat) (d : DDk) (n m : Nat) (a : Int) (A : Option Addr) (c : Nat) (b : Bs) (hT : 0 < T) (h : DiskAt base who w T g d) (hd : d.fits n) (hn : n ≤ 1000000) (hf : Fresh who w) (_hb : base ≤ w.heap.size) (hs : SlAt w A c b) (hbm : b.length = m) (hm : m ≤ 1000000) (hw0 : 0 < b.length → ∀ q o, A = some ⟨q, o, none⟩ → who q = 0) :
    Calls Try.prog 25 #[.pointer (some ⟨g, 0, none⟩), .int .i64 a, .slice A m c] w fun e w' => e = .returned (.int .i64 (appendE d a b : Nat)) ∧ DkW base who w T g (appendD d a b) w' := by
  have HR := Lib.hid (refusal_any base who w T g d a n h hd)
  have HH := Lib.hid h
  have HQ := Lib.hid (fun (W : World) (e : W.heap = w.heap) => h.keep (who' := who) (w' := W) hd (fun b _ _ => ⟨by rw [e], rfl⟩))
  have HFR := Lib.hid hf
  by_cases hmay : d.may a = 0
  · rw [hmay] at HR
    have HMAY := Lib.hid hmay
    obtain ⟨hdead, ha0, hal⟩ := may_zero hmay
    obtain ⟨i, rfl⟩ : ∃ i : Nat, a = i := ⟨a.toNat, by omega⟩
    have hal : i < d.as.length := hal
    have HFI := Lib.hid hd
    have HN := Lib.hid (show n ≤ 10000000 by omega)
    obtain ⟨ga, cap, L, h1, h2, h3, h4, h5, h6, h7⟩ := h
    obtain ⟨hlt, c0, c2, c3, c4, _, _, _⟩ := h1.cells
    have hul := DDk.used_le hd
    have hroom := hd.2.1
    have ws : IntKind.i64.wrap ((d.room : Int) - (d.used : Int)) = (d.room : Int) - (d.used : Int) := IntWalk.i64_in _ (by omega)
    by_cases hful : d.room < d.used + b.length
    · have HE := Lib.hid (show appendE d i b = 8 by unfold appendE; rw [if_neg (by omega), if_pos hful])
      have HD := Lib.hid (show appendD d i b = d by unfold appendD; rw [if_neg (by omega), if_pos hful])
      rw [HE.out, HD.out]
      have q1 : (d.room : Int) - (d.used : Int) < (m : Int) := by omega
      clear h1 h2 h3 h4 h5 h6 h7 c0 c2 c3 hw0 hs hal hmay ha0 hf hd
      go_enter Try.func25, Try.ntmps25
      go_wp2_with fail
      refine HR.out.mono ?_
      rintro e w' ⟨rfl, hw⟩
      have hw := hw.symm
      subst hw
      go_wp2_with fail
      go_quiet ((go_at_call 33; exact Calls.quiet_of_same (used_any base who _ T g d n (HQ.out _ rfl) HFI.out HN.out)))
      go_wp2_with fail
      go_ret
      exact ⟨rfl, who, HQ.out _ rfl, Turn.below (belowN _ _ _), HFR.out⟩
    · have HE := Lib.hid (show appendE d i b = (d.append i b).state by unfold appendE; rw [if_neg (by omega), if_neg hful]; rfl)
      have HD := Lib.hid (show appendD d i b = d.append i b by unfold appendD; rw [if_neg (by omega), if_neg hful]; rfl)
      rw [HE.out, HD.out]
      have q1 : (m : Int) ≤ (d.room : Int) - (d.used : Int) := by omega
      have hll : d.as.length = L.length := by rw [h5, List.length_map]
      have hi : i < L.length := by omega
      have k1 : (i : Int) < (L.length : Int) := by omega
      obtain ⟨x, hx⟩ : ∃ x, L[i]? = some x := ⟨_, List.getElem?_eq_getElem hi⟩
      have hcc := hs.cap
      have hcm := hs.c63
      obtain ⟨sp, hsp⟩ : ∃ sp, spendN d.pw m = sp := ⟨_, rfl⟩
      have hspm : sp ≤ m := by rw [← hsp]; unfold spendN; split <;> omega
      have HSP := Lib.hid (fun (W : World) (e : W.heap = w.heap) => spend_any g m d.room d.pw d.dead _ W (h1.keep (w' := W) (by rw [e])) hd.2.2.1 (by omega))
      rw [hsp] at HSP
      have HAP := Lib.hid (append_sp (d := d) (b := b) (sp := sp) (i := i) (by rw [hbm]; exact hsp))
      rw [hbm] at HAP
      by_cases hs0 : 0 < sp
      · obtain ⟨q, o, rfl⟩ := hs.addr (by omega)
        have HNEXT := Lib.hid (fun (W w2 w3 : World) (vb : Value) (eW : W.heap = w.heap) (eB : Below W.heap.size w W) (hh2 : HeadAt w2 g (afterP d.pw m) (afterD d.pw d.dead m) (.slice (some ⟨ga, 0, none⟩) L.length cap) d.room) (ho2 : OnlyB W g w2) (hob : OB w2.drew.heap.size w3 vb (b.take sp)) (hbb : Below w2.drew.heap.size w2.drew w3) =>
          show Calls Try.prog 57 #[.pointer (some ⟨ga, i * 3, none⟩), .iface 94 vb] w3 (fun e w' => e = .returned (.tuple #[]) ∧ DkW base who w T g (d.append i b) w' ∧ w'.cell? ⟨g, 3, none⟩ = w3.cell? ⟨g, 3, none⟩) from by
            have h4W : AreasAt base who W T ga cap L := h4.keep fun b _ _ => ⟨by rw [eW], rfl⟩
            obtain ⟨e1, e2, e3, e4⟩ := disk_spent m hT h2 h4W hdead hh2 ho2
            have hb23 : Below w2.heap.size w2 w3 := ⟨hbb.os, hbb.tape, hbb.output, hbb.size, hbb.block⟩
            have hf2 : Fresh who w2 := Fresh.only (HFR.out.size (by rw [eW]; exact Nat.le_refl _)) ho2
            obtain ⟨A', c', rfl, hsl, hbl⟩ := OB.sl hob
            have hat : SX.at_ who w3 (.grow A' c' (b.take sp)) := ⟨hsl, fun hn0 q' o' eq => hf2 q' ((row_blk hob (hbl q' o' none eq)).1)⟩
            have htl : (b.take sp).length = sp := by rw [List.length_take]; omega
            have hsz : W.heap.size = w.heap.size := by rw [eW]
            have hsz2 : w2.heap.size = W.heap.size := ho2.size
            refine (disk_change (n := n) (SX.grow A' c' (b.take sp)) x (after_fits hd m) hn (e1.keep (hb23.block g e1.cells.1)) h2 h3 (e2.keep fun b hl _ => ⟨hb23.block b hl, rfl⟩) (by rw [(after_eq d m).2.2.1]; exact h5) h6 e3 hx (hf2.size hb23.size) hat (okS_bytes _ _) (by show 0 < ((b.take sp).map DSt.byte).length; rw [List.length_map]; omega) (by show ((b.take sp).map DSt.byte).length ≤ _; rw [List.length_map]; omega) (by have := hb23.size; omega)).mono ?_
            rintro e w' ⟨rfl, hk, hc⟩
            refine ⟨rfl, DkW.trans (((Turn.below (eB.mono (by omega))).trans e4).trans (Turn.below hb23)) ?_, hc⟩
            rw [← HAP.out]; exact hk)
        have HCLN := Lib.hid (fun (W w2 : World) (eW : W.heap = w.heap) (ho2 : OnlyB W g w2) => clone_any (some ⟨q, o, none⟩) sp c (b.take sp) w2.drew ((show SlAt w2 (some ⟨q, o, none⟩) c b from ⟨hs.bytes.keep fun g' o' e _ => (by
          cases e
          rw [ho2.block q (fun e => by subst e; have := hw0 (by omega) q o rfl; omega), eW]), hs.cap, hs.capm, hs.nil⟩).take sp |>.below (Below.refl _ _).drew) (by rw [List.length_take]; omega) (by rw [List.length_take]; omega))
        have q3 : (sp : Int) ≤ (c : Int) := by omega
        have q4 : (0 : Int) < (sp : Int) := by omega
        clear h1 h2 h3 h4 h5 h6 h7 c0 c2 hw0 hs hmay ha0 hf hd hx hsp hdead hal hll
        go_enter Try.func25, Try.ntmps25
        go_wp2_with fail
        refine HR.out.mono ?_
        rintro e w' ⟨rfl, hw⟩
        have hw := hw.symm
        subst hw
        go_wp2_with fail
        go_quiet ((go_at_call 33; exact Calls.quiet_of_same (used_any base who _ T g d n (HQ.out _ rfl) HFI.out HN.out)))
        go_wp2_with fail
        refine (HSP.out (w.drewN _) rfl).mono ?_
        rintro e w2 ⟨rfl, hh2, ho2⟩
        have HH2 := Lib.hid hh2
        have HO2 := Lib.hid ho2
        have c3 : w2.cell? ⟨g, 3, none⟩ = some (.slice (some ⟨ga, 0, none⟩) L.length cap) := hh2.cells.2.2.2.1
        have HCL := Lib.hid (HCLN.out (w.drewN _) w2 rfl ho2)
        clear hh2 ho2
        go_wp2_with fail
        refine wp_region_held_drew (S := (fun w' => w'.cell? ⟨g, 3, none⟩ = some (.slice (some ⟨ga, 0, none⟩) L.length cap) ∧ AnyA w')) (by kernel_rfl) ⟨c3, trivial⟩ (fun hHeld => ?_)
        refine wpAnyH_take (i := 0) (v := ?vp0) rfl (by kernel_rfl) (by kernel_rfl) (by kernel_rfl) (fun _ _ _ h => h) (Or.inl ⟨by rfl, ?yp0⟩) (by assumption) ?rp0
        case yp0 =>
          intro w hSw
          (try dsimp only at hSw)
          go_simp
          first | done | with_reducible rfl
        try simp only [Act.put, List.getElem_toArray, List.getElem_cons_zero, List.setIfInBounds_toArray, List.set_cons_zero, List.set_cons_succ]
        refine wpAnyH_take (i := 1) (v := ?vp1) rfl (by kernel_rfl) (by kernel_rfl) (by kernel_rfl) (fun _ _ _ h => h) (Or.inl ⟨by rfl, ?yp1⟩) (by assumption) ?rp1
        case yp1 =>
          intro w hSw
          (try dsimp only at hSw)
          go_simp
          first | done | with_reducible rfl
        try simp only [Act.put, List.getElem_toArray, List.getElem_cons_zero, List.getElem_cons_succ, List.setIfInBounds_toArray, List.set_cons_zero, List.set_cons_succ]
        refine wpAnyH_take (i := 2) (v := ?vp2) rfl (by kernel_rfl) (by kernel_rfl) (by kernel_rfl) (fun _ _ _ h => h) (Or.inl ⟨by rfl, ?yp2⟩) (by assumption) ?rp2
        case yp2 =>
          intro w hSw
          (try dsimp only at hSw)
          go_simp
          first | done | with_reducible rfl
        try simp only [Act.put, List.getElem_toArray, List.getElem_cons_zero, List.getElem_cons_succ, List.setIfInBounds_toArray, List.set_cons_zero, List.set_cons_succ]
        refine wpAnyH_take (i := 3) (v := ?vp3) rfl (by kernel_rfl) (by kernel_rfl) (by kernel_rfl) (fun _ _ _ h => h) (Or.inl ⟨by rfl, ?yp3⟩) (by assumption) ?rp3
        case yp3 =>
          intro w hSw
          (try dsimp only at hSw)
          go_simp
          first | done | with_reducible rfl
        try simp only [Act.put, List.getElem_toArray, List.getElem_cons_zero, List.getElem_cons_succ, List.setIfInBounds_toArray, List.set_cons_zero, List.set_cons_succ]
        refine wpAnyH_take (i := 4) (v := ?vp4) rfl (by kernel_rfl) (by kernel_rfl) (by kernel_rfl) (fun _ _ _ h => h) (Or.inl ⟨by rfl, ?yp4⟩) (by assumption) ?rp4
        case yp4 =>
          intro w hSw
          (try dsimp only at hSw)
          go_simp
          first | done | with_reducible rfl
        try simp only [Act.put, List.getElem_toArray, List.getElem_cons_zero, List.getElem_cons_succ, List.setIfInBounds_toArray, List.set_cons_zero, List.set_cons_succ]
        refine wpAnyH_take (i := 5) (v := ?vp5) rfl (by kernel_rfl) (by kernel_rfl) (by kernel_rfl) (fun _ _ _ h => h) (Or.inl ⟨by rfl, ?yp5⟩) (by assumption) ?rp5
        case yp5 =>
          intro w hSw
          (try dsimp only at hSw)
          go_simp
          first | done | with_reducible rfl
        try simp only [Act.put, List.getElem_toArray, List.getElem_cons_zero, List.getElem_cons_succ, List.setIfInBounds_toArray, List.set_cons_zero, List.set_cons_succ]
        refine wpAnyH_take (i := 6) (v := ?vp6) rfl (by kernel_rfl) (by kernel_rfl) (by kernel_rfl) (fun _ _ _ h => h) (Or.inl ⟨by rfl, ?yp6⟩) (by assumption) ?rp6
        case yp6 =>
          intro w hSw
          (try dsimp only at hSw)
          go_simp
          first | done | with_reducible rfl
        try simp only [Act.put, List.getElem_toArray, List.getElem_cons_zero, List.getElem_cons_succ, List.setIfInBounds_toArray, List.set_cons_zero, List.set_cons_succ]
        refine wpAnyH_take (i := 7) (v := ?vp7) rfl (by kernel_rfl) (by kernel_rfl) (by kernel_rfl) (fun _ _ _ h => h) (Or.inl ⟨by rfl, ?yp7⟩) (by assumption) ?rp7
        case yp7 =>
          intro w hSw
          (try dsimp only at hSw)
          go_simp
          first | done | with_reducible rfl
        try simp only [Act.put, List.getElem_toArray, List.getElem_cons_zero, List.getElem_cons_succ, List.setIfInBounds_toArray, List.set_cons_zero, List.set_cons_succ]
        refine wpAnyH_take (i := 8) (v := ?vp8) rfl (by kernel_rfl) (by kernel_rfl) (by kernel_rfl) (fun _ _ _ h => h) (Or.inl ⟨by rfl, ?yp8⟩) (by assumption) ?rp8
        case yp8 =>
          intro w hSw
          (try dsimp only at hSw)
          go_simp
          first | done | with_reducible rfl
        try simp only [Act.put, List.getElem_toArray, List.getElem_cons_zero, List.getElem_cons_succ, List.setIfInBounds_toArray, List.set_cons_zero, List.set_cons_succ]
        refine wpAnyH_ready (rs := [9]) (by kernel_rfl) (by simp) ?_
        refine AllReadyH.cons rfl (fun K hK => ?_) AllReadyH.nil
        go_simp
        refine HCL.out.mono ?_
        rintro e w3 ⟨vb, rfl, hob, hbb⟩
        have HOB := Lib.hid hob
        have HBB := Lib.hid hbb
        have c3b := (hbb.cell (p := ⟨g, 3, none⟩) (World.block_lt_of_cell? _ (a := ⟨g, 3, none⟩) hHeld.1)).trans hHeld.1
        clear hob hbb
        go_wp2_with fail
        refine hK.out _ _ ⟨c3b, trivial⟩ (fun hHeld => ?_)
        clear hK K
        try simp only [Act.put, List.getElem_toArray, List.getElem_cons_zero, List.getElem_cons_succ, List.setIfInBounds_toArray, List.set_cons_zero, List.set_cons_succ]
        refine wpAnyH_take (i := 10) (v := ?vp10) rfl (by kernel_rfl) (by kernel_rfl) (by kernel_rfl) (fun _ _ _ h => h) (Or.inl ⟨by rfl, ?yp10⟩) (by assumption) ?rp10
        case yp10 =>
          intro w hSw
          (try dsimp only at hSw)
          go_simp
          first | done | with_reducible rfl
        try simp only [Act.put, List.getElem_toArray, List.getElem_cons_zero, List.getElem_cons_succ, List.setIfInBounds_toArray, List.set_cons_zero, List.set_cons_succ]
        refine wpAnyH_ready (rs := [11]) (by kernel_rfl) (by simp) ?_
        refine AllReadyH.cons rfl (fun K hK => ?_) AllReadyH.nil
        go_simp
        refine (HNEXT.out (w.drewN _) w2 w3 vb rfl (belowN _ _ _) HH2.out HO2.out HOB.out HBB.out).mono ?_
        rintro e w4 ⟨rfl, hw, hc34⟩
        have HW := Lib.hid hw
        have c34 := hc34.trans hHeld.1
        clear hw hc34
        go_wp2_with fail
        refine hK.out _ _ ⟨c34, trivial⟩ (fun hHeld => ?_)
        clear hK K
        try simp only [Act.put, List.getElem_toArray, List.getElem_cons_zero, List.getElem_cons_succ, List.setIfInBounds_toArray, List.set_cons_zero, List.set_cons_succ]
        refine wpAnyH_done (by kernel_rfl) ?_ _
        have HST := Lib.hid (stateD_any HW.out.choose_spec.1)
        clear hHeld c34
        go_wp2_with fail
        refine HST.out.mono ?_
        rintro e w5 ⟨rfl, hw5⟩
        have hw5 := hw5.symm
        subst hw5
        go_wp2_with fail
        go_ret
        exact ⟨rfl, HW.out⟩
      · obtain rfl : sp = 0 := by omega
        have HSPT := Lib.hid (fun (W w2 : World) (eW : W.heap = w.heap) (eB : Below W.heap.size w W) (hh2 : HeadAt w2 g (afterP d.pw m) (afterD d.pw d.dead m) (.slice (some ⟨ga, 0, none⟩) L.length cap) d.room) (ho2 : OnlyB W g w2) => show DkW base who w T g (d.append i b) w2 from by
          have h4W : AreasAt base who W T ga cap L := h4.keep fun b _ _ => ⟨by rw [eW], rfl⟩
          have hD := disk_spentD m hT h2 h3 h4W h5 h6 hdead hh2 ho2
          obtain ⟨e1, e2, e3, e4⟩ := disk_spent m hT h2 h4W hdead hh2 ho2
          have e5 := HAP.out
          rw [List.take_zero, List.map_nil, add_nil] at e5
          rw [e5] at hD
          exact ⟨who, hD, (Turn.below (eB.mono (by rw [eW]; exact Nat.le_refl _))).trans e4, Fresh.only (HFR.out.size (by rw [eW]; exact Nat.le_refl _)) ho2⟩)
        clear h1 h2 h3 h4 h5 h6 h7 c0 c2 hw0 hs hmay ha0 hf hd hx hsp hdead hal hll HAP
        go_enter Try.func25, Try.ntmps25
        go_wp2_with fail
        refine HR.out.mono ?_
        rintro e w' ⟨rfl, hw⟩
        have hw := hw.symm
        subst hw
        go_wp2_with fail
        go_quiet ((go_at_call 33; exact Calls.quiet_of_same (used_any base who _ T g d n (HQ.out _ rfl) HFI.out HN.out)))
        go_wp2_with fail
        refine (HSP.out (w.drewN _) rfl).mono ?_
        rintro e w2 ⟨rfl, hh2, ho2⟩
        have HW := Lib.hid (HSPT.out (w.drewN _) w2 rfl (belowN _ _ _) hh2 ho2)
        have HST := Lib.hid (stateD_any HW.out.choose_spec.1)
        clear hh2 ho2
        go_wp2_with fail
        refine HST.out.mono ?_
        rintro e w5 ⟨rfl, hw5⟩
        have hw5 := hw5.symm
        subst hw5
        go_wp2_with fail
        go_ret
        exact ⟨rfl, HW.out⟩
  · have HE := Lib.hid (show appendE d a b = d.may a by unfold appendE; rw [if_pos hmay])
    have HD := Lib.hid (show appendD d a b = d by unfold appendD; rw [if_pos hmay])
    rw [HE.out, HD.out]
    generalize d.may a = q at *
    have q1 : ((q : Int) != 0) = true := by simp [hmay]
    clear h hs hw0 hd hf
    go_enter Try.func25, Try.ntmps25
    go_wp2_with fail
    refine HR.out.mono ?_
    rintro e w' ⟨rfl, hw⟩
    have hw := hw.symm
    subst hw
    go_wp2_with fail
    go_ret
    exact ⟨rfl, DkW.refl HH.out HFR.out⟩
end Go.Proofs.Ytojkifcclgecoaa.Dk
namespace Go.Proofs.Ytojkifcclgecoaa.Dk
open Go Go.RowKit Go.Shelf Go.Proofs

theorem fresh_eq {who : Nat → Nat} {w : World} (h : Fresh who w) : Fresh who w := h
/-- What stands at an area that is there. -/
theorem area_of {d : DDk} {L : List AX} {i : Nat} {x : AX} (h5 : d.as = L.map AX.ar) (hx : L[i]? = some x) (hxo : x.ok) : d.readL (i : Int) = x.c ∧ d.lastL (i : Int) = x.l := by
  have hi := (List.getElem?_eq_some_iff.1 hx).1
  have hl : d.as.length = L.length := by rw [h5, List.length_map]
  have hh : d.has (i : Int) = true := by unfold DDk.has; simp; omega
  have e := ar_at h5 hx
  constructor
  · unfold DDk.readL
    rw [if_pos hh, Int.toNat_natCast, e]
    exact hxo.1.symm
  · unfold DDk.lastL
    rw [if_pos hh, Int.toNat_natCast, e]; rfl

set_option maxRecDepth 100000 in
set_option maxHeartbeats 16000000 in
theorem cut_disk (base : Nat) (who : Nat → Nat) (w : World) (T g : Nat) (d : DDk) (n : Nat) (a k : Int) (hT : 0 < T) (h : DiskAt base who w T g d) (hd : d.fits n) (hn : n ≤ 1000000) (hf : Fresh who w) (hb : base ≤ w.heap.size) :
    Calls Try.prog 46 #[.pointer (some ⟨g, 0, none⟩), .int .i64 a, .int .i64 k] w fun e w' => e = .returned (.int .i64 (cutE d a k : Nat)) ∧ DkW base who w T g (cutD d a k) w' := by
  have HR := Lib.hid (refusal_any base who w T g d a n h hd)
  have HH := Lib.hid h
  have HFR := Lib.hid hf
  by_cases hmay : d.may a = 0
  · rw [hmay] at HR
    obtain ⟨hdead, ha0, hal⟩ := may_zero hmay
    obtain ⟨i, rfl⟩ : ∃ i : Nat, a = i := ⟨a.toNat, by omega⟩
    have hal : i < d.as.length := hal
    obtain ⟨ga, cap, L, h1, h2, h3, h4, h5, h6, h7⟩ := h
    obtain ⟨hlt, c0, c2, c3, c4, _, _, _⟩ := h1.cells
    have hll : d.as.length = L.length := by rw [h5, List.length_map]
    have hi : i < L.length := by omega
    obtain ⟨x, hx⟩ : ∃ x, L[i]? = some x := ⟨_, List.getElem?_eq_getElem hi⟩
    have hxo := h6 x (List.mem_of_getElem? hx)
    have hfx := fits_at hd (ar_at h5 hx)
    have hcl : x.c.length ≤ n := by rw [hxo.1]; have := x.ar.now_length; omega
    have hrd := (area_of h5 hx hxo).1
    obtain ⟨Ac, cc, hcv, _⟩ := row_slice (h4.each i x hx).c
    have hcc := (h4.cells hx).1
    rw [hcv, Nat.mul_comm] at hcc
    by_cases hbad : cutBad d i k
    · have HE := Lib.hid (show cutE d i k = 2 by unfold cutE; rw [if_neg (by omega), if_pos hbad])
      have HD := Lib.hid (show cutD d i k = d by unfold cutD; rw [if_neg (by omega), if_pos hbad])
      rw [HE.out, HD.out]
      unfold cutBad at hbad
      rw [hrd] at hbad
      by_cases hk0 : k < 0
      · clear h1 h2 h3 h4 h5 h6 h7 c0 c2 c3 c4 hal hmay ha0 hf hd hx hxo hcv hrd hbad hcc
        go_enter Try.func46, Try.ntmps46
        go_wp2_with fail
        refine HR.out.mono ?_
        rintro e w' ⟨rfl, hw⟩
        have hw := hw.symm
        subst hw
        go_wp2_with fail
        go_ret
        exact ⟨rfl, DkW.refl HH.out HFR.out⟩
      · have hk1 : (x.c.length : Int) < k := by omega
        have hk3 : decide (k < 0) = false := decide_eq_false hk0
        generalize x.c.length = xl at *
        clear h1 h2 h3 h4 h5 h6 h7 c0 c2 c4 hal hmay ha0 hf hd hx hxo hcv hrd hbad
        go_enter Try.func46, Try.ntmps46
        go_wp2_with fail
        refine HR.out.mono ?_
        rintro e w' ⟨rfl, hw⟩
        have hw := hw.symm
        subst hw
        go_wp2_with fail
        refine (size_any Ac xl cc _).mono ?_
        rintro e w' ⟨rfl, hw⟩
        have hw := hw.symm
        subst hw
        go_wp2_with fail
        go_ret
        exact ⟨rfl, DkW.refl HH.out HFR.out⟩
    · have hbad' := hbad
      unfold cutBad at hbad'
      rw [hrd] at hbad'
      obtain ⟨m, rfl⟩ : ∃ m : Nat, k = m := ⟨k.toNat, by omega⟩
      have HE := Lib.hid (show cutE d i m = (d.cut i m).state by unfold cutE; rw [if_neg (by omega), if_neg hbad]; rfl)
      have HD := Lib.hid (show cutD d i m = d.cut i m by unfold cutD; rw [if_neg (by omega), if_neg hbad]; rfl)
      rw [HE.out, HD.out]
      have hk1 : (m : Int) ≤ (x.c.length : Int) := by omega
      have hk3 : decide ((m : Int) < 0) = false := decide_eq_false (by omega)
      obtain ⟨sp, hsp⟩ : ∃ sp, spendN d.pw 1 = sp := ⟨_, rfl⟩
      have HSP := Lib.hid (spend_any g 1 d.room d.pw d.dead _ w h1 hd.2.2.1 (by omega))
      rw [hsp] at HSP
      have HCU := Lib.hid (show d.cut i m = (d.after 1).add i (if 0 < sp then [.cut m] else []) by unfold DDk.cut; rw [spend_eq, hsp])
      by_cases hs0 : 0 < sp
      · have q4 : (0 : Int) < (sp : Int) := by omega
        have HNEXT := Lib.hid (fun (w2 : World) (hh2 : HeadAt w2 g (afterP d.pw 1) (afterD d.pw d.dead 1) (.slice (some ⟨ga, 0, none⟩) L.length cap) d.room) (ho2 : OnlyB w g w2) =>
          show Calls Try.prog 57 #[.pointer (some ⟨ga, i * 3, none⟩), .iface 111 (.int .i64 (m : Int))] w2 (fun e w' => e = .returned (.tuple #[]) ∧ DkW base who w T g (d.cut i m) w') from by
            obtain ⟨e1, e2, e3, e4⟩ := disk_spent 1 hT h2 h4 hdead hh2 ho2
            refine (disk_change (n := n) (SX.cut m) x (after_fits hd 1) hn e1 h2 h3 e2 (by rw [(after_eq d 1).2.2.1]; exact h5) h6 e3 hx (Fresh.only HFR.out ho2) (show m ≤ 100000000 by omega) ⟨by omega, trivial⟩ (by show 0 < 1; omega) (by show 1 ≤ _; omega) (by rw [ho2.size]; omega)).mono ?_
            rintro e w' ⟨rfl, hk, hc⟩
            refine ⟨rfl, DkW.trans e4 ?_⟩
            rw [HCU.out, if_pos hs0]; exact hk)
        generalize x.c.length = xl at *
        clear h1 h2 h3 h4 h5 h6 h7 c0 c2 c4 hal hmay ha0 hf hd hx hxo hcv hrd hbad hbad' HE HD
        go_enter Try.func46, Try.ntmps46
        go_wp2_with fail
        refine HR.out.mono ?_
        rintro e w' ⟨rfl, hw⟩
        have hw := hw.symm
        subst hw
        go_wp2_with fail
        refine (size_any Ac xl cc _).mono ?_
        rintro e w' ⟨rfl, hw⟩
        have hw := hw.symm
        subst hw
        go_wp2_with fail
        refine HSP.out.mono ?_
        rintro e w2 ⟨rfl, hh2, ho2⟩
        have HN := Lib.hid (HNEXT.out w2 hh2 ho2)
        have c32 : w2.cell? ⟨g, 3, none⟩ = some (.slice (some ⟨ga, 0, none⟩) L.length cap) := hh2.cells.2.2.2.1
        clear hh2 ho2 c3
        go_wp2_with fail
        refine HN.out.mono ?_
        rintro e w4 ⟨rfl, hw⟩
        have HW := Lib.hid hw
        have HST := Lib.hid (stateD_any HW.out.choose_spec.1)
        clear hw
        go_wp2_with fail
        refine HST.out.mono ?_
        rintro e w5 ⟨rfl, hw5⟩
        have hw5 := hw5.symm
        subst hw5
        go_wp2_with fail
        go_ret
        exact ⟨rfl, HW.out⟩
      · obtain rfl : sp = 0 := by omega
        have HNEXT := Lib.hid (fun (w2 : World) (hh2 : HeadAt w2 g (afterP d.pw 1) (afterD d.pw d.dead 1) (.slice (some ⟨ga, 0, none⟩) L.length cap) d.room) (ho2 : OnlyB w g w2) => show DkW base who w T g (d.cut i m) w2 from by
          have hD := disk_spentD 1 hT h2 h3 h4 h5 h6 hdead hh2 ho2
          obtain ⟨e1, e2, e3, e4⟩ := disk_spent 1 hT h2 h4 hdead hh2 ho2
          have e5 := HCU.out
          rw [if_neg (by omega), add_nil] at e5
          rw [e5]
          exact ⟨who, hD, e4, Fresh.only HFR.out ho2⟩)
        generalize x.c.length = xl at *
        clear h1 h2 h3 h4 h5 h6 h7 c0 c2 c4 hal hmay ha0 hf hd hx hxo hcv hrd hbad hbad' HE HD
        go_enter Try.func46, Try.ntmps46
        go_wp2_with fail
        refine HR.out.mono ?_
        rintro e w' ⟨rfl, hw⟩
        have hw := hw.symm
        subst hw
        go_wp2_with fail
        refine (size_any Ac xl cc _).mono ?_
        rintro e w' ⟨rfl, hw⟩
        have hw := hw.symm
        subst hw
        go_wp2_with fail
        refine HSP.out.mono ?_
        rintro e w2 ⟨rfl, hh2, ho2⟩
        have HW := Lib.hid (HNEXT.out w2 hh2 ho2)
        have HST := Lib.hid (stateD_any HW.out.choose_spec.1)
        clear hh2 ho2 c3
        go_wp2_with fail
        refine HST.out.mono ?_
        rintro e w5 ⟨rfl, hw5⟩
        have hw5 := hw5.symm
        subst hw5
        go_wp2_with fail
        go_ret
        exact ⟨rfl, HW.out⟩
  · have HE := Lib.hid (show cutE d a k = d.may a by unfold cutE; rw [if_pos hmay])
    have HD := Lib.hid (show cutD d a k = d by unfold cutD; rw [if_pos hmay])
    rw [HE.out, HD.out]
    generalize d.may a = q at *
    have q1 : ((q : Int) != 0) = true := by simp [hmay]
    clear h hd hf
    go_enter Try.func46, Try.ntmps46
    go_wp2_with fail
    refine HR.out.mono ?_
    rintro e w' ⟨rfl, hw⟩
    have hw := hw.symm
    subst hw
    go_wp2_with fail
    go_ret
    exact ⟨rfl, DkW.refl HH.out HFR.out⟩

set_option maxRecDepth 100000 in
set_option maxHeartbeats 16000000 in
theorem sync_any (base : Nat) (who : Nat → Nat) (w : World) (T g : Nat) (d : DDk) (n : Nat) (a : Int) (hT : 0 < T) (h : DiskAt base who w T g d) (hd : d.fits n) (hn : n ≤ 1000000) (hf : Fresh who w) (hb : base ≤ w.heap.size) :
    Calls Try.prog 43 #[.pointer (some ⟨g, 0, none⟩), .int .i64 a] w fun e w' => e = .returned (.int .i64 (syncE d a : Nat)) ∧ DkW base who w T g (syncD d a) w' := by
  have HR := Lib.hid (refusal_any base who w T g d a n h hd)
  have HH := Lib.hid h
  have HFR := Lib.hid hf
  by_cases hmay : d.may a = 0
  · rw [hmay] at HR
    obtain ⟨hdead, ha0, hal⟩ := may_zero hmay
    obtain ⟨i, rfl⟩ : ∃ i : Nat, a = i := ⟨a.toNat, by omega⟩
    have hal : i < d.as.length := hal
    obtain ⟨ga, cap, L, h1, h2, h3, h4, h5, h6, h7⟩ := h
    have hll : d.as.length = L.length := by rw [h5, List.length_map]
    have hi : i < L.length := by omega
    obtain ⟨x, hx⟩ : ∃ x, L[i]? = some x := ⟨_, List.getElem?_eq_getElem hi⟩
    have hxo := h6 x (List.mem_of_getElem? hx)
    have hfx := fits_at hd (ar_at h5 hx)
    have HE := Lib.hid (show syncE d i = (d.sync i).state by unfold syncE; rw [if_neg (by omega)]; rfl)
    have HD := Lib.hid (show syncD d i = d.sync i by unfold syncD; rw [if_neg (by omega)]; rfl)
    rw [HE.out, HD.out]
    obtain ⟨sp, hsp⟩ : ∃ sp, spendN d.pw 1 = sp := ⟨_, rfl⟩
    have HSP := Lib.hid (spend_any g 1 d.room d.pw d.dead _ w h1 hd.2.2.1 (by omega))
    rw [hsp] at HSP
    have HCU := Lib.hid (show d.sync i = (if 0 < sp then (d.after 1).settle i else d.after 1) by unfold DDk.sync; rw [spend_eq, hsp])
    by_cases hs0 : 0 < sp
    · have q4 : (0 : Int) < (sp : Int) := by omega
      have h8 : L.length ≤ 8 := by have := hd.1; omega
      have HNEXT := Lib.hid (fun (w2 : World) (hh2 : HeadAt w2 g (afterP d.pw 1) (afterD d.pw d.dead 1) (.slice (some ⟨ga, 0, none⟩) L.length cap) d.room) (ho2 : OnlyB w g w2) =>
        show Calls Try.prog 72 #[.pointer (some ⟨ga, i * 3, none⟩), .int .i64 9223372036854775807] w2 (fun e w' => e = .returned (.tuple #[]) ∧ DkW base who w T g (d.sync i) w') from by
          obtain ⟨e1, e2, e3, e4⟩ := disk_spent 1 hT h2 h4 hdead hh2 ho2
          have hpl : x.p.length ≤ n := by have := hxo.2.2; have e : x.ar.p.length = (stsX x.p).length := rfl; omega
          have e6 : x.ar.p.length = (stsX x.p).length := rfl
          have e7 : x.ar.l.length = x.l.length := rfl
          have := settle_any base who w2 T ga cap i 9223372036854775807 L x e2 hx (Fresh.only HFR.out ho2) hxo.2.1 (by omega) (by omega) (Nat.le_refl _) (by rw [ho2.size]; omega)
          rw [Nat.mul_comm i 3]
          refine this.mono ?_
          rintro e w' ⟨rfl, hk⟩
          refine ⟨rfl, DkW.trans e4 ?_⟩
          rw [HCU.out, if_pos hs0]
          rw [List.take_of_length_le (by omega)] at hk
          exact disk_settled e1 h2 h3 (by rw [(after_eq d 1).2.2.1]; exact h5) h6 e3 h8 hx hk)
      clear h1 h2 h3 h4 h5 h6 h7 hal hmay ha0 hf hd hx hxo HE HD
      go_enter Try.func43, Try.ntmps43
      go_wp2_with fail
      refine HR.out.mono ?_
      rintro e w' ⟨rfl, hw⟩
      have hw := hw.symm
      subst hw
      go_wp2_with fail
      refine HSP.out.mono ?_
      rintro e w2 ⟨rfl, hh2, ho2⟩
      have HN := Lib.hid (HNEXT.out w2 hh2 ho2)
      have c32 : w2.cell? ⟨g, 3, none⟩ = some (.slice (some ⟨ga, 0, none⟩) L.length cap) := hh2.cells.2.2.2.1
      clear hh2 ho2
      go_wp2_with fail
      refine HN.out.mono ?_
      rintro e w4 ⟨rfl, hw⟩
      have HW := Lib.hid hw
      have HST := Lib.hid (stateD_any HW.out.choose_spec.1)
      clear hw
      go_wp2_with fail
      refine HST.out.mono ?_
      rintro e w5 ⟨rfl, hw5⟩
      have hw5 := hw5.symm
      subst hw5
      go_wp2_with fail
      go_ret
      exact ⟨rfl, HW.out⟩
    · obtain rfl : sp = 0 := by omega
      have HNEXT := Lib.hid (fun (w2 : World) (hh2 : HeadAt w2 g (afterP d.pw 1) (afterD d.pw d.dead 1) (.slice (some ⟨ga, 0, none⟩) L.length cap) d.room) (ho2 : OnlyB w g w2) => show DkW base who w T g (d.sync i) w2 from by
        have hD := disk_spentD 1 hT h2 h3 h4 h5 h6 hdead hh2 ho2
        obtain ⟨e1, e2, e3, e4⟩ := disk_spent 1 hT h2 h4 hdead hh2 ho2
        rw [HCU.out, if_neg (by omega)]
        exact ⟨who, hD, e4, Fresh.only HFR.out ho2⟩)
      clear h1 h2 h3 h4 h5 h6 h7 hal hmay ha0 hf hd hx hxo HE HD
      go_enter Try.func43, Try.ntmps43
      go_wp2_with fail
      refine HR.out.mono ?_
      rintro e w' ⟨rfl, hw⟩
      have hw := hw.symm
      subst hw
      go_wp2_with fail
      refine HSP.out.mono ?_
      rintro e w2 ⟨rfl, hh2, ho2⟩
      have HW := Lib.hid (HNEXT.out w2 hh2 ho2)
      have HST := Lib.hid (stateD_any HW.out.choose_spec.1)
      clear hh2 ho2
      go_wp2_with fail
      refine HST.out.mono ?_
      rintro e w5 ⟨rfl, hw5⟩
      have hw5 := hw5.symm
      subst hw5
      go_wp2_with fail
      go_ret
      exact ⟨rfl, HW.out⟩
  · have HE := Lib.hid (show syncE d a = d.may a by unfold syncE; rw [if_pos hmay])
    have HD := Lib.hid (show syncD d a = d by unfold syncD; rw [if_pos hmay])
    rw [HE.out, HD.out]
    generalize d.may a = q at *
    have q1 : ((q : Int) != 0) = true := by simp [hmay]
    clear h hd hf
    go_enter Try.func43, Try.ntmps43
    go_wp2_with fail
    refine HR.out.mono ?_
    rintro e w' ⟨rfl, hw⟩
    have hw := hw.symm
    subst hw
    go_wp2_with fail
    go_ret
    exact ⟨rfl, DkW.refl HH.out HFR.out⟩
theorem sync_nil (a : Value) (w : World) : Calls Try.prog 43 #[.pointer none, a] w fun e w' => e = .returned (.int .i64 1) ∧ w' = w := by
  go_enter Try.func43, Try.ntmps43
  go_wp2_with fail
  refine (refusal_nil _ _).mono ?_
  rintro e w' ⟨rfl, rfl⟩
  go_wp2_with fail
  go_ret
  exact ⟨rfl, rfl⟩
end Go.Proofs.Ytojkifcclgecoaa.Dk
namespace Go.Proofs.Ytojkifcclgecoaa.Dk
open Go Go.RowKit Go.Shelf Go.Proofs

theorem head_set {w : World} {g room : Nat} {pw : Option Nat} {dead : Bool} {X : Value} {u : Int} (h1 : w.heap[g]? = some (.cells #[.bool pw.isSome, .int .i64 u, .bool dead, X, .int .i64 (room : Int)] 72 (0, 0))) (k : Nat) :
    ((w.setCell ⟨g, 0, none⟩ (.bool true)).setCell ⟨g, 1, none⟩ (.int .i64 (k : Int))).heap[g]? = some (.cells #[.bool true, .int .i64 (k : Int), .bool dead, X, .int .i64 (room : Int)] 72 (0, 0)) := by
  have e1 := heap_setCell_same w g 0 _ _ (.bool true) h1
  exact heap_setCell_same _ g 1 _ _ (.int .i64 (k : Int)) e1
set_option maxHeartbeats 4000000 in
theorem arm_any (base : Nat) (who : Nat → Nat) (w : World) (T g : Nat) (d : DDk) (n : Nat) (k : Int) (hT : 0 < T) (h : DiskAt base who w T g d) (_hd : d.fits n) (hf : Fresh who w) :
    Calls Try.prog 13 #[.pointer (some ⟨g, 0, none⟩), .int .i64 k] w fun e w' => e = .returned (.tuple #[]) ∧ DkW base who w T g (d.arm k) w' := by
  have HH := Lib.hid h
  have HFR := Lib.hid hf
  obtain ⟨ga, cap, L, h1, h2, h3, h4, h5, h6, h7⟩ := h
  have hA : Calls Try.prog 41 #[.pointer (some ⟨g, 0, none⟩), .int .i64 k] w fun e w' => e = .returned (.tuple #[]) ∧ DkW base who w T g (d.arm k) w' := by
    obtain ⟨hlt, c0, c2, _, _, _, ⟨u', c1⟩, f⟩ := h1.cells
    cases hdd : d.dead with
    | true =>
      have HD := Lib.hid (show d.arm k = d by unfold DDk.arm; rw [if_pos hdd])
      rw [HD.out]
      rw [hdd] at c2
      clear h1 h2 h3 h4 h5 h6 h7 c0 c1 hf hdd
      go_enter Try.func41, Try.ntmps41
      go_wp2_with fail
      go_returns
      exact ⟨rfl, DkW.refl HH.out HFR.out⟩
    | false =>
      obtain ⟨u, hu, hu2⟩ := h1
      obtain ⟨q, hq⟩ : ∃ q : Nat, min (max k 0) 1000000000 = (q : Int) := ⟨(min (max k 0) 1000000000).toNat, by omega⟩
      have hq2 : (min (max k 0) 1000000000).toNat = q := by omega
      have HF := Lib.hid (show DkW base who w T g (d.arm k) ((w.setCell ⟨g, 0, none⟩ (.bool true)).setCell ⟨g, 1, none⟩ (.int .i64 (q : Int))) from by
        have ho := (OnlyB.set w g 0 (.bool true)).trans (OnlyB.set _ g 1 (.int .i64 (q : Int)))
        have e := head_set hu q
        rw [show d.arm k = { d with pw := some q } by unfold DDk.arm; rw [hdd, hq2]; rfl]
        exact ⟨who, ⟨ga, cap, L, ⟨q, e, fun k' e' => (by cases e'; rfl)⟩, h2, h3, OnlyB.areas h4 ho hT h2, h5, h6, fun hh => by rw [show d.dead = true from hh] at hdd; cases hdd⟩, ho.turn h2, Fresh.only hf ho⟩)
      rw [hdd] at c2
      have f0 := f 0
      have f1 := f 1
      have e1 := heap_setCell_same w g 0 _ _ (.bool true) hu
      have f1' : (w.setCell ⟨g, 0, none⟩ (.bool true)).frozen? ⟨g, 1, none⟩ = false := frozen_of_row _ g 1 _ _ e1
      have c1' : (w.setCell ⟨g, 0, none⟩ (.bool true)).cell? ⟨g, 1, none⟩ = some (.int .i64 u) := cell_of_row _ g 1 _ _ _ e1
      have HQ := Lib.hid hq
      clear hu hu2 h2 h3 h4 h5 h6 h7 hf hdd hq2 e1 f
      go_enter Try.func41, Try.ntmps41
      go_wp2_with fail
      go_returns
      exact ⟨rfl, HF.out⟩
  have HA := Lib.hid hA
  clear h1 h2 h3 h4 h5 h6 h7 hf hA
  go_enter Try.func13, Try.ntmps13
  go_wp2_with fail
  refine HA.out.mono ?_
  rintro e w' ⟨rfl, hw⟩
  have HW := Lib.hid hw
  clear hw
  go_wp2_with fail
  go_returns
  exact ⟨rfl, HW.out⟩

theorem has_len {d : DDk} {a : Int} (h : d.has a = true) : ∃ i : Nat, a = i ∧ i < d.as.length := by
  unfold DDk.has at h
  simp only [Bool.and_eq_true, decide_eq_true_eq] at h
  exact ⟨a.toNat, by omega, by omega⟩
set_option maxHeartbeats 4000000 in
theorem read_any (base : Nat) (who : Nat → Nat) (w : World) (T g : Nat) (d : DDk) (n : Nat) (a : Int) (h : DiskAt base who w T g d) (hd : d.fits n) (hn : n ≤ 1000000) :
    Calls Try.prog 24 #[.pointer (some ⟨g, 0, none⟩), .int .i64 a] w fun e w' => ∃ v, e = .returned v ∧ OB w.heap.size w' v (d.readL a) ∧ Below w.heap.size w w' := by
  have HHAS := Lib.hid (has_any base who w T g d a n h hd)
  obtain ⟨ga, cap, L, h1, h2, h3, h4, h5, h6, h7⟩ := h
  cases hh : d.has a with
  | false =>
    rw [hh] at HHAS
    have HE := Lib.hid (show d.readL a = [] by unfold DDk.readL; rw [if_neg (by rw [hh]; decide)])
    rw [HE.out]
    clear h1 h2 h3 h4 h5 h6 h7 hd hh
    go_enter Try.func24, Try.ntmps24
    go_wp2_with fail
    refine HHAS.out.mono ?_
    rintro e w' ⟨rfl, hw⟩
    have hw := hw.symm
    subst hw
    go_wp2_with fail
    go_ret
    exact ⟨_, rfl, OB.nil _ _, Below.refl _ _⟩
  | true =>
    rw [hh] at HHAS
    obtain ⟨i, rfl, hi⟩ := has_len hh
    obtain ⟨hlt, _, _, c3, _⟩ := h1.cells
    have hil : i < L.length := by rw [h5, List.length_map] at hi; exact hi
    obtain ⟨x, hx⟩ : ∃ x, L[i]? = some x := ⟨_, List.getElem?_eq_getElem hil⟩
    have hxo := h6 x (List.mem_of_getElem? hx)
    have hfx := fits_at hd (ar_at h5 hx)
    have hcl : x.c.length ≤ n := by rw [hxo.1]; have := x.ar.now_length; omega
    have HE := Lib.hid (show d.readL (i : Int) = x.c by unfold DDk.readL; rw [if_pos hh, Int.toNat_natCast, ar_at h5 hx]; exact hxo.1.symm)
    rw [HE.out]
    obtain ⟨A, c, hcv, hsl, _⟩ := OB.sl (h4.each i x hx).c
    have hcc := (h4.cells hx).1
    rw [hcv, Nat.mul_comm] at hcc
    have HT := Lib.hid (tell_any A x.c.length c x.c w hsl rfl (by omega))
    generalize x.c.length = xl at *
    clear h1 h2 h3 h4 h5 h6 h7 hd hh hsl hcv hxo hx hfx
    go_enter Try.func24, Try.ntmps24
    go_wp2_with fail
    refine HHAS.out.mono ?_
    rintro e w' ⟨rfl, hw⟩
    have hw := hw.symm
    subst hw
    go_wp2_with fail
    refine HT.out.mono ?_
    rintro e w' ⟨v, rfl, ho, hb⟩
    go_wp2_with fail
    go_ret
    exact ⟨v, rfl, ho, hb⟩
set_option maxHeartbeats 4000000 in
theorem lasting_any (base : Nat) (who : Nat → Nat) (w : World) (T g : Nat) (d : DDk) (n : Nat) (a : Int) (h : DiskAt base who w T g d) (hd : d.fits n) (hn : n ≤ 1000000) :
    Calls Try.prog 36 #[.pointer (some ⟨g, 0, none⟩), .int .i64 a] w fun e w' => ∃ v, e = .returned v ∧ OB w.heap.size w' v (d.lastL a) ∧ Below w.heap.size w w' := by
  have HHAS := Lib.hid (has_any base who w T g d a n h hd)
  obtain ⟨ga, cap, L, h1, h2, h3, h4, h5, h6, h7⟩ := h
  cases hh : d.has a with
  | false =>
    rw [hh] at HHAS
    have HE := Lib.hid (show d.lastL a = [] by unfold DDk.lastL; rw [if_neg (by rw [hh]; decide)])
    rw [HE.out]
    clear h1 h2 h3 h4 h5 h6 h7 hd hh
    go_enter Try.func36, Try.ntmps36
    go_wp2_with fail
    refine HHAS.out.mono ?_
    rintro e w' ⟨rfl, hw⟩
    have hw := hw.symm
    subst hw
    go_wp2_with fail
    go_ret
    exact ⟨_, rfl, OB.nil _ _, Below.refl _ _⟩
  | true =>
    rw [hh] at HHAS
    obtain ⟨i, rfl, hi⟩ := has_len hh
    obtain ⟨hlt, _, _, c3, _⟩ := h1.cells
    have hil : i < L.length := by rw [h5, List.length_map] at hi; exact hi
    obtain ⟨x, hx⟩ : ∃ x, L[i]? = some x := ⟨_, List.getElem?_eq_getElem hil⟩
    have hfx := fits_at hd (ar_at h5 hx)
    have hcl : x.l.length ≤ n := by have e : x.ar.l = x.l := rfl; rw [e] at hfx; omega
    have HE := Lib.hid (show d.lastL (i : Int) = x.l by unfold DDk.lastL; rw [if_pos hh, Int.toNat_natCast, ar_at h5 hx]; rfl)
    rw [HE.out]
    obtain ⟨A, c, hcv, hsl, _⟩ := OB.sl (h4.each i x hx).l
    have hcc := (h4.cells hx).2.1
    rw [hcv, Nat.mul_comm] at hcc
    have HT := Lib.hid (tell_any A x.l.length c x.l w hsl rfl (by omega))
    generalize x.l.length = xl at *
    clear h1 h2 h3 h4 h5 h6 h7 hd hh hsl hcv hx hfx
    go_enter Try.func36, Try.ntmps36
    go_wp2_with fail
    refine HHAS.out.mono ?_
    rintro e w' ⟨rfl, hw⟩
    have hw := hw.symm
    subst hw
    go_wp2_with fail
    refine HT.out.mono ?_
    rintro e w' ⟨v, rfl, ho, hb⟩
    go_wp2_with fail
    go_ret
    exact ⟨v, rfl, ho, hb⟩

theorem area_info : (Try.prog.info? 88).map (fun i => (i.zero, i.size, i.bytes)) = some (some (.agg #[.slice none 0 0, .slice none 0 0, .slice none 0 0]), 3, 72) := by kernel_rfl
def AX.empty : AX := ⟨.slice none 0 0, .slice none 0 0, .slice none 0 0, [], [], []⟩
theorem empty_cells (n : Nat) : (List.replicate n AX.empty).flatMap AX.cs = List.replicate (n * 3) (.slice none 0 0) := by
  induction n with
  | zero => rfl
  | succ n ih => rw [List.replicate_succ, List.flatMap_cons, ih, show (n + 1) * 3 = n * 3 + 1 + 1 + 1 from by omega, List.replicate_succ, List.replicate_succ, List.replicate_succ]; rfl
theorem made_cells (n : Nat) : (madeCells (Value.agg #[.slice none 0 0, .slice none 0 0, .slice none 0 0]).cells (n * 3)).toList = List.replicate (n * 3) (.slice none 0 0) := by
  apply List.ext_getElem?
  intro j
  by_cases hj : j < n * 3
  · have h3 : j % 3 < 3 := Nat.mod_lt _ (by omega)
    simp [madeCells, hj, Value.cells]
    generalize j % 3 = q at *
    match q, h3 with
    | 0, _ => rfl
    | 1, _ => rfl
    | 2, _ => rfl
  · simp [madeCells, hj]
set_option maxRecDepth 100000 in
set_option maxHeartbeats 4000000 in
theorem new_any (who : Nat → Nat) (w : World) (T : Nat) (a r : Int) (hf : Fresh who w) :
    Calls Try.prog 11 #[.int .i64 a, .int .i64 r] w fun e w' => ∃ g, e = .returned (.pointer (some ⟨g, 0, none⟩)) ∧ (DDk.new a r).sane ∧ ∃ who', DiskAt w.heap.size who' w' T g (DDk.new a r) ∧ Turn T (T + 26) who w who' w' ∧ Fresh who' w' ∧ w.heap.size ≤ g := by
  obtain ⟨n, hn⟩ : ∃ n : Nat, min (max a 0) 8 = (n : Int) := ⟨(min (max a 0) 8).toNat, by omega⟩
  obtain ⟨m, hm⟩ : ∃ m : Nat, min (max r 0) 4194304 = (m : Int) := ⟨(min (max r 0) 4194304).toNat, by omega⟩
  have hn8 : n ≤ 8 := by omega
  obtain ⟨i0, hi, hz0, hz1, hz2⟩ := info_parts area_info
  obtain ⟨w1, hr, ho, hg⟩ := run_make_full (P := Try.prog) w w.heap.size 68 88 i0 _ 3 Try.underlying68 hi hz0 hz1 .i64 .i64 n (by rw [hz2]; omega) (by unfold maxLen; omega) (Nat.le_refl _)
  rw [made_cells] at ho
  have HN := Lib.hid hn
  have HM := Lib.hid hm
  have HFIN := Lib.hid (show ∃ who', DiskAt w.heap.size who' (w1.alloc (.cells #[.bool false, .int .i64 0, .bool false, .slice (some ⟨w.heap.size, 0, none⟩) n n, .int .i64 (m : Int)] 72)) T w1.heap.size (DDk.new a r) ∧ Turn T (T + 26) who w who' (w1.alloc (.cells #[.bool false, .int .i64 0, .bool false, .slice (some ⟨w.heap.size, 0, none⟩) n n, .int .i64 (m : Int)] 72)) ∧ Fresh who' (w1.alloc (.cells #[.bool false, .int .i64 0, .bool false, .slice (some ⟨w.heap.size, 0, none⟩) n n, .int .i64 (m : Int)] 72)) ∧ w.heap.size ≤ w1.heap.size from by
    have hsz := hg.size
    have hgl : w.heap.size < w1.heap.size := (row_blk ho rfl).2.1
    have hb1 : Below w.heap.size w w1 := (Below.refl _ _).grown hg (Nat.le_refl _) (fun k e => by cases e)
    obtain ⟨w2, hw2⟩ : ∃ w2, w1.alloc (.cells #[.bool false, .int .i64 0, .bool false, .slice (some ⟨w.heap.size, 0, none⟩) n n, .int .i64 (m : Int)] 72) = w2 := ⟨_, rfl⟩
    have hb2 : Below w1.heap.size w1 w2 := by rw [← hw2]; exact (Below.refl _ _).alloc (Nat.le_refl _) _
    have hh : w2.heap[w1.heap.size]? = some (.cells #[.bool false, .int .i64 0, .bool false, .slice (some ⟨w.heap.size, 0, none⟩) n n, .int .i64 (m : Int)] 72 (0, 0)) := by rw [← hw2]; exact heap_alloc_new w1 _
    have hs2 : w2.heap.size = w1.heap.size + 1 := by rw [← hw2]; simp
    rw [hw2]
    have hb02 : Below w.heap.size w w2 := hb1.trans (hb2.mono hsz)
    refine ⟨fun b => if b = w1.heap.size then T else if b = w.heap.size then T + 1 else who b, ⟨w.heap.size, n, List.replicate n AX.empty, ⟨0, ?_, fun k e => by cases e⟩, if_pos rfl, hsz, ⟨?_, ?_, fun i x hx => ?_⟩, ?_, fun x hx => ?_, fun e => by cases e⟩, ⟨hb02.os, hb02.tape, hb02.output, hb02.size, fun b hb _ => hb02.block b hb, fun b hb => ?_⟩, fun b hb => ?_, hsz⟩
    · rw [List.length_replicate, show (DDk.new a r).room = m by unfold DDk.new; show (min (max r 0) 4194304).toNat = m; rw [hm]; rfl]
      exact hh
    · rw [List.length_replicate, empty_cells]
      exact row_keep ho fun g e hl => hb2.block g hl
    · show (if w.heap.size = w1.heap.size then T else if w.heap.size = w.heap.size then T + 1 else who w.heap.size) = T + 1
      rw [if_neg (by omega), if_pos rfl]
    · have := List.mem_of_getElem? hx
      obtain rfl := (List.mem_replicate.1 this).2
      exact ⟨OB.nil _ _, OB.nil _ _, World.ownsRow_nil _ _ _ _, (fun s hs => by cases hs), fun g e => (by cases e), fun g e => (by cases e), fun g e => (by cases e)⟩
    · show List.replicate (min (max a 0) 8).toNat _ = _
      rw [hn, Int.toNat_natCast, List.map_replicate]; rfl
    · obtain rfl := (List.mem_replicate.1 hx).2
      exact ⟨rfl, trivial, Nat.le_refl _⟩
    · show (if b = w1.heap.size then T else if b = w.heap.size then T + 1 else who b) = who b
      rw [if_neg (by omega), if_neg (by omega)]
    · show (if b = w1.heap.size then T else if b = w.heap.size then T + 1 else who b) = 0
      rw [if_neg (by omega), if_neg (by omega)]
      exact hf b (by omega))
  have HR := Lib.hid hr
  have q1 : (n : Int) ≤ 9223372036854775807 := by omega
  clear hr ho hg hi hz0 hz1 hz2 hf
  go_enter Try.func11, Try.ntmps11
  go_wp2_with fail
  rw [HR.out]
  go_wp2_with fail
  go_ret
  obtain ⟨who', k1, k2, k3, k4⟩ := HFIN.out
  exact ⟨_, rfl, (fun e => by cases e), who', k1, k2, k3, k4⟩
end Go.Proofs.Ytojkifcclgecoaa.Dk
namespace Go.Proofs.Ytojkifcclgecoaa.Dk
open Go Go.RowKit Go.Shelf Go.Proofs

def RInv (base : Nat) (who : Nat → Nat) (w : World) (T g ga cap : Nat) (L : List AX) (d : DDk) (k i : Nat) (wr : World) : Prop :=
  ∃ who' L', HeadAt wr g d.pw d.dead (.slice (some ⟨ga, 0, none⟩) L.length cap) d.room ∧ AreasAt base who' wr T ga cap L' ∧ L'.length = L.length ∧ (∀ j, i ≤ j → L'[j]? = L[j]?) ∧ L'.map AX.ar = (d.as.take i).map (keepA k) ++ d.as.drop i ∧ (∀ y ∈ L', y.ok) ∧ Turn (T + 1) (T + 2 + 3 * L.length) who w who' wr ∧ Fresh who' wr
theorem keep_step {l : List DAr} {i : Nat} {x : DAr} (k : Nat) (h : l[i]? = some x) : ((l.take i).map (keepA k) ++ l.drop i).modify i (fun y => keepA k y) = (l.take (i + 1)).map (keepA k) ++ l.drop (i + 1) := by
  have hi := (List.getElem?_eq_some_iff.1 h).1
  apply List.ext_getElem?
  intro j
  rw [List.getElem?_modify]
  simp only [List.getElem?_append, List.length_map, List.length_take, List.getElem?_map, List.getElem?_take, List.getElem?_drop]
  by_cases h1 : j < i
  · have hne : ¬ i = j := by omega
    rw [if_pos (show j < min i l.length by omega), if_pos h1, if_pos (show j < min (i + 1) l.length by omega), if_pos (show j < i + 1 by omega)]
    simp [hne]
  · by_cases h2 : i = j
    · subst h2
      rw [if_neg (show ¬ i < min i l.length by omega), if_pos (show i < min (i + 1) l.length by omega), if_pos (show i < i + 1 by omega), show i + (i - min i l.length) = i by omega]
      simp
    · rw [if_neg (show ¬ j < min i l.length by omega), if_neg (show ¬ j < min (i + 1) l.length by omega), show i + (j - min i l.length) = i + 1 + (j - min (i + 1) l.length) by omega]
      simp [h2]
theorem RInv.step {base : Nat} {who : Nat → Nat} {w wr : World} {T g ga cap k i n : Nat} {L : List AX} {d : DDk} (h : RInv base who w T g ga cap L d k i wr) (hi : i < L.length) (h2 : who g = T) (hgl : g < w.heap.size) (h5 : d.as = L.map AX.ar) (hd : d.fits n) (hn : n ≤ 1000000) (hk : k ≤ 9223372036854775807) (hb : base ≤ w.heap.size) :
    Calls Try.prog 52 #[.pointer (some ⟨ga, i * 3, none⟩), .int .i64 (k : Int)] wr fun e w' => e = .returned (.tuple #[]) ∧ RInv base who w T g ga cap L d k (i + 1) w' := by
  obtain ⟨who1, L1, k1, k2, k3, k4, k5, k6, k7, k8⟩ := h
  obtain ⟨x, hx⟩ : ∃ x, L[i]? = some x := ⟨_, List.getElem?_eq_getElem hi⟩
  have hx1 : L1[i]? = some x := by rw [k4 i (Nat.le_refl _)]; exact hx
  have hxo := k6 x (List.mem_of_getElem? hx1)
  have har := ar_at h5 hx
  have hfx := fits_at hd har
  have e6 : x.ar.p.length = (stsX x.p).length := rfl
  have e7 : x.ar.l.length = x.l.length := rfl
  have := restart_any base who1 wr T ga cap i k L1 x k2 hx1 k8 hxo.2.1 (by omega) (by have := hxo.2.2; omega) hk (Nat.le_trans hb k7.size)
  rw [Nat.mul_comm i 3]
  refine this.mono ?_
  rintro e w' ⟨rfl, who2, cv, lv, m1, m2, m3⟩
  have hg1 := k1.cells.1
  have hwg : who1 g = T := (k7.same g hgl).trans h2
  refine ⟨rfl, who2, _, k1.keep (m2.block g hg1 (by rw [hwg]; omega)), m1, by rw [List.length_set]; exact k3, fun j hj => ?_, ?_, mem_set k6 ⟨rfl, trivial, Nat.zero_le _⟩, k7.trans (by rw [k3] at m2; exact m2), m3⟩
  · rw [List.getElem?_set_ne (by omega)]; exact k4 j (by omega)
  · rw [set_map_ar (f := fun y => keepA k y) hx1 rfl, k5, keep_step k har]
set_option maxRecDepth 100000 in
set_option maxHeartbeats 16000000 in
theorem restart_disk (base : Nat) (who : Nat → Nat) (w : World) (T g : Nat) (d : DDk) (n : Nat) (k : Int) (hT : 0 < T) (h : DiskAt base who w T g d) (hd : d.fits n) (hn : n ≤ 1000000) (hf : Fresh who w) (hb : base ≤ w.heap.size) (hk : k ≤ 9223372036854775807) :
    Calls Try.prog 19 #[.pointer (some ⟨g, 0, none⟩), .int .i64 k] w fun e w' => e = .returned (.tuple #[]) ∧ DkW base who w T g (d.restart k) w' := by
  obtain ⟨q, hq⟩ : ∃ q : Nat, max k 0 = (q : Int) := ⟨k.toNat, by omega⟩
  have hkq : k.toNat = q := by omega
  obtain ⟨ga, cap, L, h1, h2, h3, h4, h5, h6, h7⟩ := h
  obtain ⟨hlt, _, _, c3, _⟩ := h1.cells
  have h8 : L.length ≤ 8 := by have := hd.1; rw [h5, List.length_map] at this; exact this
  have H0 := Lib.hid (show RInv base who w T g ga cap L d q 0 w from ⟨who, L, h1, h4, rfl, fun _ _ => rfl, by rw [List.take_zero, List.drop_zero, h5]; rfl, h6, Turn.refl _ _ _ _, hf⟩)
  have HST := Lib.hid (fun (i : Nat) (wr : World) (hi : i < L.length) (h : RInv base who w T g ga cap L d q i wr) => RInv.step h hi h2 hlt h5 hd hn (by omega) hb)
  have HEND := Lib.hid (fun (wr : World) (h : RInv base who w T g ga cap L d q L.length wr) => show DkW base who w T g (d.restart k) (((wr.setCell ⟨g, 0, none⟩ (.bool false)).setCell ⟨g, 1, none⟩ (.int .i64 0)).setCell ⟨g, 2, none⟩ (.bool false)) from by
    obtain ⟨who1, L1, k1, k2, k3, k4, k5, k6, k7, k8⟩ := h
    have hwg : who1 g = T := (k7.same g hlt).trans h2
    obtain ⟨u, hu, _⟩ := k1
    have e1 := heap_setCell_same wr g 0 _ _ (.bool false) hu
    have e2 := heap_setCell_same _ g 1 _ _ (.int .i64 0) e1
    have e3 := heap_setCell_same _ g 2 _ _ (.bool false) e2
    have ho := ((OnlyB.set wr g 0 (.bool false)).trans (OnlyB.set _ g 1 (.int .i64 0))).trans (OnlyB.set _ g 2 (.bool false))
    have hll : d.as.length = L.length := by rw [h5, List.length_map]
    rw [← hll, List.take_length, List.drop_length, List.append_nil] at k5
    refine ⟨who1, ⟨ga, cap, L1, ⟨0, ?_, fun k' e' => by cases e'⟩, hwg, h3, OnlyB.areas k2 ho hT hwg, ?_, k6, fun e => by cases e⟩, (k7.wider (by omega) (by omega)).trans (ho.turn hwg), Fresh.only k8 ho⟩
    · rw [k3]; exact e3
    · show d.as.map (keepA k.toNat) = _
      rw [hkq]; exact k5.symm)
  have HC3 := Lib.hid (fun (i : Nat) (wr : World) (h : RInv base who w T g ga cap L d q i wr) => show wr.cell? ⟨g, 3, none⟩ = some (.slice (some ⟨ga, 0, none⟩) L.length cap) ∧ (∃ b, wr.cell? ⟨g, 0, none⟩ = some (.bool b)) ∧ (∃ u, wr.cell? ⟨g, 1, none⟩ = some (.int .i64 u)) ∧ (∃ b, wr.cell? ⟨g, 2, none⟩ = some (.bool b)) ∧ (∀ j, wr.frozen? ⟨g, j, none⟩ = false) from by
    obtain ⟨who1, L1, k1, _⟩ := h
    obtain ⟨_, b0, b2, b3, _, _, b1, f⟩ := k1.cells
    exact ⟨b3, ⟨_, b0⟩, b1, ⟨_, b2⟩, f⟩)
  clear h1 h2 h3 h4 h5 h6 h7 hd hf hkq
  go_enter Try.func19, Try.ntmps19
  go_wp2_with fail
  go_loopw [12] (fun y wr => ∃ (i : Nat), i ≤ L.length ∧ y = .int .i64 i ∧ Hid (RInv base who w T g ga cap L d q i wr)) (fun y _ => L.length - (intOf y).toNat)
  case atStart => exact ⟨0, Nat.zero_le _, rfl, H0⟩
  case round =>
    obtain ⟨i, hi, rfl, HR⟩ := hrel
    obtain ⟨r3, ⟨b0, r0⟩, ⟨u, r1⟩, ⟨b2, r2⟩, f⟩ := HC3.out i wr HR.out
    by_cases k1 : i < L.length
    · have HS := Lib.hid (HST.out i wr k1 HR.out)
      clear c3 r0 r1 r2 f
      go_wp2_with fail
      refine HS.out.mono ?_
      rintro e w1 ⟨rfl, hr⟩
      have HR1 := Lib.hid hr
      clear hr
      go_wp2_with fail
      go_roundw
      case rel => exact ⟨i + 1, by omega, by go_num, HR1⟩
      case measure => simp [intOf]; omega
    · obtain rfl : i = L.length := by omega
      have HE := Lib.hid (HEND.out wr HR.out)
      have f0 := f 0
      have f1 := f 1
      have f2 := f 2
      clear f c3
      go_wp2_with fail
      go_returns
      exact ⟨rfl, HE.out⟩
end Go.Proofs.Ytojkifcclgecoaa.Dk
