/-
  What is done to a disk: Append, Cut, Sync, Arm, Restart.
-/
import Derived.Test.YtjobohhbkcjhnaaDkRest
namespace Go.Proofs.Ytjobohhbkcjhnaa
open Go Go.RowKit Go.Shelf Go.Proofs

theorem spend_eq (d : DDk) (n : Nat) : d.spend n = spendN d.pw n := by unfold DDk.spend spendN; cases d.pw <;> rfl
theorem after_eq (d : DDk) (n : Nat) : (d.after n).pw = afterP d.pw n ∧ (d.after n).dead = afterD d.pw d.dead n ∧ (d.after n).as = d.as ∧ (d.after n).room = d.room := by
  unfold DDk.after afterP afterD
  cases h : d.pw <;> simp [h]
theorem after_fits {d : DDk} {m : Nat} (h : d.fits m) (n : Nat) : (d.after n).fits m := by
  obtain ⟨e1, e2, e3, e4⟩ := after_eq d n
  refine ⟨by rw [e3]; exact h.1, by rw [e4]; exact h.2.1, fun k hk => ?_, by rw [e3]; exact h.2.2.2⟩
  rw [e1] at hk
  unfold afterP at hk
  cases hp : d.pw with
  | none => rw [hp] at hk; cases hk
  | some q => rw [hp] at hk; cases hk; have := h.2.2.1 q hp; omega
theorem after_sane {d : DDk} (h : d.dead = false) (n : Nat) : (d.after n).sane := by
  obtain ⟨e1, e2, _, _⟩ := after_eq d n
  unfold DDk.sane
  rw [e1, e2]
  unfold afterP afterD
  cases d.pw with
  | none => simp [h]
  | some k => simp; omega
theorem may_zero {d : DDk} {a : Int} (h : d.may a = 0) : d.dead = false ∧ 0 ≤ a ∧ a.toNat < d.as.length := by
  unfold DDk.may DDk.state stateN at h
  split at h
  · rename_i hh
    unfold DDk.has at hh
    simp only [Bool.and_eq_true, decide_eq_true_eq] at hh
    refine ⟨?_, hh.1, by omega⟩
    cases hd : d.dead with
    | false => rfl
    | true => rw [hd] at h; simp at h
  · cases h
theorem add_nil (d : DDk) (a : Nat) : d.add a [] = d := by
  unfold DDk.add addAt
  have : d.as.modify a (fun x => ⟨x.l, x.p ++ []⟩) = d.as := by
    apply List.ext_getElem?
    intro j
    rw [List.getElem?_modify]
    cases d.as[j]? <;> simp
  rw [this]
theorem DkW.refl {base : Nat} {who : Nat → Nat} {w : World} {T g : Nat} {d : DDk} (h : DiskAt base who w T g d) (hf : Fresh who w) : DkW base who w T g d w := ⟨who, h, Turn.refl _ _ _ _, hf⟩
theorem DkW.trans {base : Nat} {who who1 : Nat → Nat} {w w1 w2 : World} {T g : Nat} {d : DDk} (h : Turn T (T + 26) who w who1 w1) (k : DkW base who1 w1 T g d w2) : DkW base who w T g d w2 := by
  obtain ⟨who2, h1, h2, h3⟩ := k
  exact ⟨who2, h1, h.trans h2, h3⟩
/-- Behind spending. -/
theorem disk_spent {base : Nat} {who : Nat → Nat} {w w' : World} {T g ga cap : Nat} {L : List AX} {d : DDk} (m : Nat) (hT : 0 < T) (h2 : who g = T) (h4 : AreasAt base who w T ga cap L) (h7 : d.dead = false) (hh : HeadAt w' g (afterP d.pw m) (afterD d.pw d.dead m) (.slice (some ⟨ga, 0, none⟩) L.length cap) d.room) (ho : OnlyB w g w') :
    HeadAt w' g (d.after m).pw (d.after m).dead (.slice (some ⟨ga, 0, none⟩) L.length cap) (d.after m).room ∧ AreasAt base who w' T ga cap L ∧ (d.after m).sane ∧ Turn T (T + 26) who w who w' := by
  obtain ⟨e1, e2, e3, e4⟩ := after_eq d m
  rw [e1, e2, e4]
  exact ⟨hh, OnlyB.areas h4 ho hT h2, after_sane h7 m, ho.turn h2⟩
theorem Fresh.only {who : Nat → Nat} {w w' : World} {g : Nat} (h : Fresh who w) (ho : OnlyB w g w') : Fresh who w' := h.size (by rw [ho.size]; exact Nat.le_refl _)

theorem stateD_any {base : Nat} {who : Nat → Nat} {w : World} {T g : Nat} {d : DDk} (h : DiskAt base who w T g d) : Calls Try.prog 43 #[.pointer (some ⟨g, 0, none⟩)] w fun e w' => e = .returned (.int .i64 (d.state : Nat)) ∧ w' = w := by
  obtain ⟨ga, cap, L, h1, _⟩ := h
  exact state_any g d.room d.pw d.dead _ w h1
theorem belowN (B : Nat) (w : World) (n : Nat) : Below B w (w.drewN n) := ⟨rfl, rfl, rfl, Nat.le_refl _, fun _ _ => rfl⟩
theorem disk_spentD {base : Nat} {who : Nat → Nat} {w w' : World} {T g ga cap : Nat} {L : List AX} {d : DDk} (m : Nat) (hT : 0 < T) (h2 : who g = T) (h3 : base ≤ g) (h4 : AreasAt base who w T ga cap L) (h5 : d.as = L.map AX.ar) (h6 : ∀ x ∈ L, x.ok) (h7 : d.dead = false) (hh : HeadAt w' g (afterP d.pw m) (afterD d.pw d.dead m) (.slice (some ⟨ga, 0, none⟩) L.length cap) d.room) (ho : OnlyB w g w') :
    DiskAt base who w' T g (d.after m) := by
  obtain ⟨k1, k2, k3, _⟩ := disk_spent m hT h2 h4 h7 hh ho
  exact ⟨ga, cap, L, k1, h2, h3, k2, by rw [(after_eq d m).2.2.1]; exact h5, h6, k3⟩
/-- A step into an area of a disk. -/
theorem disk_change {base : Nat} {who : Nat → Nat} {w : World} {T g ga cap i n : Nat} {L : List AX} {d : DDk} (s : SX) (x : AX) (hd : d.fits n) (hn : n ≤ 1000000) (h1 : HeadAt w g d.pw d.dead (.slice (some ⟨ga, 0, none⟩) L.length cap) d.room) (h2 : who g = T) (h3 : base ≤ g) (h4 : AreasAt base who w T ga cap L) (h5 : d.as = L.map AX.ar) (h6 : ∀ x ∈ L, x.ok) (h7 : d.sane) (hx : L[i]? = some x) (hf : Fresh who w) (hs : s.at_ who w) (hok : okS x.c s.sts) (h0 : 0 < s.sts.length) (hsl : s.sts.length ≤ 1000000) (hb : base ≤ w.heap.size) :
    Calls Try.prog 41 #[.pointer (some ⟨ga, i * 3, none⟩), s.v] w fun e w' => e = .returned (.tuple #[]) ∧ DkW base who w T g (d.add i s.sts) w' ∧ w'.cell? ⟨g, 3, none⟩ = w.cell? ⟨g, 3, none⟩ := by
  have hxo := h6 x (List.mem_of_getElem? hx)
  have hfx := fits_at hd (ar_at h5 hx)
  have hcl : x.c.length ≤ n := by rw [hxo.1]; have := x.ar.now_length; omega
  have hpl : x.p.length ≤ n := by have := hxo.2.2; have e : x.ar.p.length = (stsX x.p).length := rfl; omega
  have h8 : L.length ≤ 8 := by have := hd.1; rw [h5, List.length_map] at this; exact this
  rw [Nat.mul_comm i 3]
  refine (change_any base who w T ga cap i L x s h4 hx hf hs hok (by omega) (by omega) hb).mono ?_
  rintro e w' ⟨rfl, hc⟩
  have hw := disk_changed h1 h2 h3 h5 h6 h7 h8 hx hok h0 hc
  obtain ⟨_, _, _, _, ht, _⟩ := hc
  exact ⟨rfl, hw, World.cell?_of_block (a := ⟨g, 3, none⟩) (ht.block g h1.cells.1 (by rw [h2]; omega))⟩
theorem append_sp {d : DDk} {i : Nat} {b : Bs} {sp : Nat} (h : spendN d.pw b.length = sp) : (d.after b.length).add i ((b.take sp).map .byte) = d.append i b := by
  unfold DDk.append
  rw [spend_eq, h]

set_option maxRecDepth 100000 in
set_option maxHeartbeats 16000000 in
theorem append_any (base : Nat) (who : Nat → Nat) (w : World) (T g : Nat) (d : DDk) (n m : Nat) (a : Int) (A : Option Addr) (c : Nat) (b : Bs) (hT : 0 < T) (h : DiskAt base who w T g d) (hd : d.fits n) (hn : n ≤ 1000000) (hf : Fresh who w) (_hb : base ≤ w.heap.size) (hs : SlAt w A c b) (hbm : b.length = m) (hm : m ≤ 1000000) (hw0 : 0 < b.length → ∀ q o, A = some ⟨q, o, none⟩ → who q = 0) :
    Calls Try.prog 24 #[.pointer (some ⟨g, 0, none⟩), .int .i64 a, .slice A m c] w fun e w' => e = .returned (.int .i64 (appendE d a b : Nat)) ∧ DkW base who w T g (appendD d a b) w' := by
  have HR := Lib.hid (refusal_any base who w T g d a n h hd)
  have HH := Lib.hid h
  have HQ := Lib.hid (fun (W : World) (e : W.heap = w.heap) => h.keep (who' := who) (w' := W) hd (fun b _ _ => ⟨by rw [e], rfl⟩))
  have HFR := Lib.hid hf
  by_cases hmay : d.may a = 0
  · rw [hmay] at HR
    have HMAY := Lib.hid hmay
    obtain ⟨hdead, ha0, hal⟩ := may_zero hmay
    obtain ⟨i, rfl⟩ : ∃ i : Nat, a = i := ⟨a.toNat, by omega⟩
    have hal : i < d.as.length := hal
    have HFI := Lib.hid hd
    have HN := Lib.hid (show n ≤ 10000000 by omega)
    obtain ⟨ga, cap, L, h1, h2, h3, h4, h5, h6, h7⟩ := h
    obtain ⟨hlt, c0, c2, c3, c4, _, _, _⟩ := h1.cells
    have hul := DDk.used_le hd
    have hroom := hd.2.1
    have ws : IntKind.i64.wrap ((d.room : Int) - (d.used : Int)) = (d.room : Int) - (d.used : Int) := IntWalk.i64_in _ (by omega)
    by_cases hful : d.room < d.used + b.length
    · have HE := Lib.hid (show appendE d i b = 8 by unfold appendE; rw [if_neg (by omega), if_pos hful])
      have HD := Lib.hid (show appendD d i b = d by unfold appendD; rw [if_neg (by omega), if_pos hful])
      rw [HE.out, HD.out]
      have q1 : (d.room : Int) - (d.used : Int) < (m : Int) := by omega
      clear h1 h2 h3 h4 h5 h6 h7 c0 c2 c3 hw0 hs hal hmay ha0 hf hd
      go_enter Try.func24, Try.ntmps24
      go_wp2_with fail
      refine HR.out.mono ?_
      rintro e w' ⟨rfl, hw⟩
      have hw := hw.symm
      subst hw
      go_wp2_with fail
      go_quiet ((go_at_call 17; exact Calls.quiet_of_same (used_any base who _ T g d n (HQ.out _ rfl) HFI.out HN.out)))
      go_wp2_with fail
      go_ret
      exact ⟨rfl, who, HQ.out _ rfl, Turn.below (belowN _ _ _), HFR.out⟩
    · have HE := Lib.hid (show appendE d i b = (d.append i b).state by unfold appendE; rw [if_neg (by omega), if_neg hful]; rfl)
      have HD := Lib.hid (show appendD d i b = d.append i b by unfold appendD; rw [if_neg (by omega), if_neg hful]; rfl)
      rw [HE.out, HD.out]
      have q1 : (m : Int) ≤ (d.room : Int) - (d.used : Int) := by omega
      have hll : d.as.length = L.length := by rw [h5, List.length_map]
      have hi : i < L.length := by omega
      have k1 : (i : Int) < (L.length : Int) := by omega
      obtain ⟨x, hx⟩ : ∃ x, L[i]? = some x := ⟨_, List.getElem?_eq_getElem hi⟩
      have hcc := hs.cap
      have hcm := hs.c63
      obtain ⟨sp, hsp⟩ : ∃ sp, spendN d.pw m = sp := ⟨_, rfl⟩
      have hspm : sp ≤ m := by rw [← hsp]; unfold spendN; split <;> omega
      have HSP := Lib.hid (fun (W : World) (e : W.heap = w.heap) => spend_any g m d.room d.pw d.dead _ W (h1.keep (w' := W) (by rw [e])) hd.2.2.1 (by omega))
      rw [hsp] at HSP
      have HAP := Lib.hid (append_sp (d := d) (b := b) (sp := sp) (i := i) (by rw [hbm]; exact hsp))
      rw [hbm] at HAP
      by_cases hs0 : 0 < sp
      · obtain ⟨q, o, rfl⟩ := hs.addr (by omega)
        have HNEXT := Lib.hid (fun (W w2 w3 : World) (vb : Value) (eW : W.heap = w.heap) (eB : Below W.heap.size w W) (hh2 : HeadAt w2 g (afterP d.pw m) (afterD d.pw d.dead m) (.slice (some ⟨ga, 0, none⟩) L.length cap) d.room) (ho2 : OnlyB W g w2) (hob : OB w2.drew.heap.size w3 vb (b.take sp)) (hbb : Below w2.drew.heap.size w2.drew w3) =>
          show Calls Try.prog 41 #[.pointer (some ⟨ga, i * 3, none⟩), .iface 78 vb] w3 (fun e w' => e = .returned (.tuple #[]) ∧ DkW base who w T g (d.append i b) w' ∧ w'.cell? ⟨g, 3, none⟩ = w3.cell? ⟨g, 3, none⟩) from by
            have h4W : AreasAt base who W T ga cap L := h4.keep fun b _ _ => ⟨by rw [eW], rfl⟩
            obtain ⟨e1, e2, e3, e4⟩ := disk_spent m hT h2 h4W hdead hh2 ho2
            have hb23 : Below w2.heap.size w2 w3 := ⟨hbb.os, hbb.tape, hbb.output, hbb.size, hbb.block⟩
            have hf2 : Fresh who w2 := Fresh.only (HFR.out.size (by rw [eW]; exact Nat.le_refl _)) ho2
            obtain ⟨A', c', rfl, hsl, hbl⟩ := OB.sl hob
            have hat : SX.at_ who w3 (.grow A' c' (b.take sp)) := ⟨hsl, fun hn0 q' o' eq => hf2 q' ((row_blk hob (hbl q' o' none eq)).1)⟩
            have htl : (b.take sp).length = sp := by rw [List.length_take]; omega
            have hsz : W.heap.size = w.heap.size := by rw [eW]
            have hsz2 : w2.heap.size = W.heap.size := ho2.size
            refine (disk_change (n := n) (SX.grow A' c' (b.take sp)) x (after_fits hd m) hn (e1.keep (hb23.block g e1.cells.1)) h2 h3 (e2.keep fun b hl _ => ⟨hb23.block b hl, rfl⟩) (by rw [(after_eq d m).2.2.1]; exact h5) h6 e3 hx (hf2.size hb23.size) hat (okS_bytes _ _) (by show 0 < ((b.take sp).map DSt.byte).length; rw [List.length_map]; omega) (by show ((b.take sp).map DSt.byte).length ≤ _; rw [List.length_map]; omega) (by have := hb23.size; omega)).mono ?_
            rintro e w' ⟨rfl, hk, hc⟩
            refine ⟨rfl, DkW.trans (((Turn.below (eB.mono (by omega))).trans e4).trans (Turn.below hb23)) ?_, hc⟩
            rw [← HAP.out]; exact hk)
        have HCLN := Lib.hid (fun (W w2 : World) (eW : W.heap = w.heap) (ho2 : OnlyB W g w2) => clone_any (some ⟨q, o, none⟩) sp c (b.take sp) w2.drew ((show SlAt w2 (some ⟨q, o, none⟩) c b from ⟨hs.bytes.keep fun g' o' e _ => (by
          cases e
          rw [ho2.block q (fun e => by subst e; have := hw0 (by omega) q o rfl; omega), eW]), hs.cap, hs.capm, hs.nil⟩).take sp |>.below (Below.refl _ _).drew) (by rw [List.length_take]; omega) (by rw [List.length_take]; omega))
        have q3 : (sp : Int) ≤ (c : Int) := by omega
        have q4 : (0 : Int) < (sp : Int) := by omega
        clear h1 h2 h3 h4 h5 h6 h7 c0 c2 hw0 hs hmay ha0 hf hd hx hsp hdead hal hll
        go_enter Try.func24, Try.ntmps24
        go_wp2_with fail
        refine HR.out.mono ?_
        rintro e w' ⟨rfl, hw⟩
        have hw := hw.symm
        subst hw
        go_wp2_with fail
        go_quiet ((go_at_call 17; exact Calls.quiet_of_same (used_any base who _ T g d n (HQ.out _ rfl) HFI.out HN.out)))
        go_wp2_with fail
        refine (HSP.out (w.drewN _) rfl).mono ?_
        rintro e w2 ⟨rfl, hh2, ho2⟩
        have HH2 := Lib.hid hh2
        have HO2 := Lib.hid ho2
        have c3 : w2.cell? ⟨g, 3, none⟩ = some (.slice (some ⟨ga, 0, none⟩) L.length cap) := hh2.cells.2.2.2.1
        have HCL := Lib.hid (HCLN.out (w.drewN _) w2 rfl ho2)
        clear hh2 ho2
        go_wp2_with fail
        refine wp_region_held_drew (S := (fun w' => w'.cell? ⟨g, 3, none⟩ = some (.slice (some ⟨ga, 0, none⟩) L.length cap) ∧ AnyA w')) (by kernel_rfl) ⟨c3, trivial⟩ (fun hHeld => ?_)
        refine wpAnyH_take (i := 0) (v := ?vp0) rfl (by kernel_rfl) (by kernel_rfl) (by kernel_rfl) (fun _ _ _ h => h) (Or.inl ⟨by rfl, ?yp0⟩) (by assumption) ?rp0
        case yp0 =>
          intro w hSw
          (try dsimp only at hSw)
          go_simp
          first | done | with_reducible rfl
        try simp only [Act.put, List.getElem_toArray, List.getElem_cons_zero, List.setIfInBounds_toArray, List.set_cons_zero, List.set_cons_succ]
        refine wpAnyH_take (i := 1) (v := ?vp1) rfl (by kernel_rfl) (by kernel_rfl) (by kernel_rfl) (fun _ _ _ h => h) (Or.inl ⟨by rfl, ?yp1⟩) (by assumption) ?rp1
        case yp1 =>
          intro w hSw
          (try dsimp only at hSw)
          go_simp
          first | done | with_reducible rfl
        try simp only [Act.put, List.getElem_toArray, List.getElem_cons_zero, List.getElem_cons_succ, List.setIfInBounds_toArray, List.set_cons_zero, List.set_cons_succ]
        refine wpAnyH_take (i := 2) (v := ?vp2) rfl (by kernel_rfl) (by kernel_rfl) (by kernel_rfl) (fun _ _ _ h => h) (Or.inl ⟨by rfl, ?yp2⟩) (by assumption) ?rp2
        case yp2 =>
          intro w hSw
          (try dsimp only at hSw)
          go_simp
          first | done | with_reducible rfl
        try simp only [Act.put, List.getElem_toArray, List.getElem_cons_zero, List.getElem_cons_succ, List.setIfInBounds_toArray, List.set_cons_zero, List.set_cons_succ]
        refine wpAnyH_take (i := 3) (v := ?vp3) rfl (by kernel_rfl) (by kernel_rfl) (by kernel_rfl) (fun _ _ _ h => h) (Or.inl ⟨by rfl, ?yp3⟩) (by assumption) ?rp3
        case yp3 =>
          intro w hSw
          (try dsimp only at hSw)
          go_simp
          first | done | with_reducible rfl
        try simp only [Act.put, List.getElem_toArray, List.getElem_cons_zero, List.getElem_cons_succ, List.setIfInBounds_toArray, List.set_cons_zero, List.set_cons_succ]
        refine wpAnyH_take (i := 4) (v := ?vp4) rfl (by kernel_rfl) (by kernel_rfl) (by kernel_rfl) (fun _ _ _ h => h) (Or.inl ⟨by rfl, ?yp4⟩) (by assumption) ?rp4
        case yp4 =>
          intro w hSw
          (try dsimp only at hSw)
          go_simp
          first | done | with_reducible rfl
        try simp only [Act.put, List.getElem_toArray, List.getElem_cons_zero, List.getElem_cons_succ, List.setIfInBounds_toArray, List.set_cons_zero, List.set_cons_succ]
        refine wpAnyH_take (i := 5) (v := ?vp5) rfl (by kernel_rfl) (by kernel_rfl) (by kernel_rfl) (fun _ _ _ h => h) (Or.inl ⟨by rfl, ?yp5⟩) (by assumption) ?rp5
        case yp5 =>
          intro w hSw
          (try dsimp only at hSw)
          go_simp
          first | done | with_reducible rfl
        try simp only [Act.put, List.getElem_toArray, List.getElem_cons_zero, List.getElem_cons_succ, List.setIfInBounds_toArray, List.set_cons_zero, List.set_cons_succ]
        refine wpAnyH_take (i := 6) (v := ?vp6) rfl (by kernel_rfl) (by kernel_rfl) (by kernel_rfl) (fun _ _ _ h => h) (Or.inl ⟨by rfl, ?yp6⟩) (by assumption) ?rp6
        case yp6 =>
          intro w hSw
          (try dsimp only at hSw)
          go_simp
          first | done | with_reducible rfl
        try simp only [Act.put, List.getElem_toArray, List.getElem_cons_zero, List.getElem_cons_succ, List.setIfInBounds_toArray, List.set_cons_zero, List.set_cons_succ]
        refine wpAnyH_take (i := 7) (v := ?vp7) rfl (by kernel_rfl) (by kernel_rfl) (by kernel_rfl) (fun _ _ _ h => h) (Or.inl ⟨by rfl, ?yp7⟩) (by assumption) ?rp7
        case yp7 =>
          intro w hSw
          (try dsimp only at hSw)
          go_simp
          first | done | with_reducible rfl
        try simp only [Act.put, List.getElem_toArray, List.getElem_cons_zero, List.getElem_cons_succ, List.setIfInBounds_toArray, List.set_cons_zero, List.set_cons_succ]
        refine wpAnyH_take (i := 8) (v := ?vp8) rfl (by kernel_rfl) (by kernel_rfl) (by kernel_rfl) (fun _ _ _ h => h) (Or.inl ⟨by rfl, ?yp8⟩) (by assumption) ?rp8
        case yp8 =>
          intro w hSw
          (try dsimp only at hSw)
          go_simp
          first | done | with_reducible rfl
        try simp only [Act.put, List.getElem_toArray, List.getElem_cons_zero, List.getElem_cons_succ, List.setIfInBounds_toArray, List.set_cons_zero, List.set_cons_succ]
        refine wpAnyH_ready (rs := [9]) (by kernel_rfl) (by simp) ?_
        refine AllReadyH.cons rfl (fun K hK => ?_) AllReadyH.nil
        go_simp
        refine HCL.out.mono ?_
        rintro e w3 ⟨vb, rfl, hob, hbb⟩
        have HOB := Lib.hid hob
        have HBB := Lib.hid hbb
        have c3b := (hbb.cell (p := ⟨g, 3, none⟩) (World.block_lt_of_cell? _ (a := ⟨g, 3, none⟩) hHeld.1)).trans hHeld.1
        clear hob hbb
        go_wp2_with fail
        refine hK.out _ _ ⟨c3b, trivial⟩ (fun hHeld => ?_)
        clear hK K
        try simp only [Act.put, List.getElem_toArray, List.getElem_cons_zero, List.getElem_cons_succ, List.setIfInBounds_toArray, List.set_cons_zero, List.set_cons_succ]
        refine wpAnyH_take (i := 10) (v := ?vp10) rfl (by kernel_rfl) (by kernel_rfl) (by kernel_rfl) (fun _ _ _ h => h) (Or.inl ⟨by rfl, ?yp10⟩) (by assumption) ?rp10
        case yp10 =>
          intro w hSw
          (try dsimp only at hSw)
          go_simp
          first | done | with_reducible rfl
        try simp only [Act.put, List.getElem_toArray, List.getElem_cons_zero, List.getElem_cons_succ, List.setIfInBounds_toArray, List.set_cons_zero, List.set_cons_succ]
        refine wpAnyH_ready (rs := [11]) (by kernel_rfl) (by simp) ?_
        refine AllReadyH.cons rfl (fun K hK => ?_) AllReadyH.nil
        go_simp
        refine (HNEXT.out (w.drewN _) w2 w3 vb rfl (belowN _ _ _) HH2.out HO2.out HOB.out HBB.out).mono ?_
        rintro e w4 ⟨rfl, hw, hc34⟩
        have HW := Lib.hid hw
        have c34 := hc34.trans hHeld.1
        clear hw hc34
        go_wp2_with fail
        refine hK.out _ _ ⟨c34, trivial⟩ (fun hHeld => ?_)
        clear hK K
        try simp only [Act.put, List.getElem_toArray, List.getElem_cons_zero, List.getElem_cons_succ, List.setIfInBounds_toArray, List.set_cons_zero, List.set_cons_succ]
        refine wpAnyH_done (by kernel_rfl) ?_ _
        have HST := Lib.hid (stateD_any HW.out.choose_spec.1)
        clear hHeld c34
        go_wp2_with fail
        refine HST.out.mono ?_
        rintro e w5 ⟨rfl, hw5⟩
        have hw5 := hw5.symm
        subst hw5
        go_wp2_with fail
        go_ret
        exact ⟨rfl, HW.out⟩
      · obtain rfl : sp = 0 := by omega
        have HSPT := Lib.hid (fun (W w2 : World) (eW : W.heap = w.heap) (eB : Below W.heap.size w W) (hh2 : HeadAt w2 g (afterP d.pw m) (afterD d.pw d.dead m) (.slice (some ⟨ga, 0, none⟩) L.length cap) d.room) (ho2 : OnlyB W g w2) => show DkW base who w T g (d.append i b) w2 from by
          have h4W : AreasAt base who W T ga cap L := h4.keep fun b _ _ => ⟨by rw [eW], rfl⟩
          have hD := disk_spentD m hT h2 h3 h4W h5 h6 hdead hh2 ho2
          obtain ⟨e1, e2, e3, e4⟩ := disk_spent m hT h2 h4W hdead hh2 ho2
          have e5 := HAP.out
          rw [List.take_zero, List.map_nil, add_nil] at e5
          rw [e5] at hD
          exact ⟨who, hD, (Turn.below (eB.mono (by rw [eW]; exact Nat.le_refl _))).trans e4, Fresh.only (HFR.out.size (by rw [eW]; exact Nat.le_refl _)) ho2⟩)
        clear h1 h2 h3 h4 h5 h6 h7 c0 c2 hw0 hs hmay ha0 hf hd hx hsp hdead hal hll HAP
        go_enter Try.func24, Try.ntmps24
        go_wp2_with fail
        refine HR.out.mono ?_
        rintro e w' ⟨rfl, hw⟩
        have hw := hw.symm
        subst hw
        go_wp2_with fail
        go_quiet ((go_at_call 17; exact Calls.quiet_of_same (used_any base who _ T g d n (HQ.out _ rfl) HFI.out HN.out)))
        go_wp2_with fail
        refine (HSP.out (w.drewN _) rfl).mono ?_
        rintro e w2 ⟨rfl, hh2, ho2⟩
        have HW := Lib.hid (HSPT.out (w.drewN _) w2 rfl (belowN _ _ _) hh2 ho2)
        have HST := Lib.hid (stateD_any HW.out.choose_spec.1)
        clear hh2 ho2
        go_wp2_with fail
        refine HST.out.mono ?_
        rintro e w5 ⟨rfl, hw5⟩
        have hw5 := hw5.symm
        subst hw5
        go_wp2_with fail
        go_ret
        exact ⟨rfl, HW.out⟩
  · have HE := Lib.hid (show appendE d a b = d.may a by unfold appendE; rw [if_pos hmay])
    have HD := Lib.hid (show appendD d a b = d by unfold appendD; rw [if_pos hmay])
    rw [HE.out, HD.out]
    generalize d.may a = q at *
    have q1 : ((q : Int) != 0) = true := by simp [hmay]
    clear h hs hw0 hd hf
    go_enter Try.func24, Try.ntmps24
    go_wp2_with fail
    refine HR.out.mono ?_
    rintro e w' ⟨rfl, hw⟩
    have hw := hw.symm
    subst hw
    go_wp2_with fail
    go_ret
    exact ⟨rfl, DkW.refl HH.out HFR.out⟩
end Go.Proofs.Ytjobohhbkcjhnaa
