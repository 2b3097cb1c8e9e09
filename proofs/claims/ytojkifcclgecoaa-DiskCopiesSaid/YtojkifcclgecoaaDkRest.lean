/-
  restart of an area; what turns in a disk behind its areas.
-/
import Derived.Test.YtojkifcclgecoaaDkRead
namespace Go.Proofs.Ytojkifcclgecoaa.Dk
open Go Go.RowKit Go.Shelf Go.Proofs

def RestartW (base : Nat) (who : Nat → Nat) (w0 : World) (T ga cap i : Nat) (L : List AX) (x : AX) (b : Bs) (w : World) : Prop :=
  ∃ who' cv lv, AreasAt base who' w T ga cap (L.set i { x with cv := cv, lv := lv, c := b, l := b, pv := .slice none 0 0, p := [] }) ∧ Turn (T + 1) (T + 2 + 3 * L.length) who w0 who' w ∧ Fresh who' w
set_option maxRecDepth 100000 in
set_option maxHeartbeats 8000000 in
theorem restart_any (base : Nat) (who : Nat → Nat) (w : World) (T ga cap i k : Nat) (L : List AX) (x : AX) (h : AreasAt base who w T ga cap L) (hx : L[i]? = some x) (hf : Fresh who w) (hok : okS x.l (stsX x.p)) (hl : x.l.length + (stsX x.p).length ≤ 10000000) (hpl : x.p.length ≤ 10000000) (hk : k ≤ 9223372036854775807) (hb : base ≤ w.heap.size) :
    Calls Try.prog 52 #[.pointer (some ⟨ga, 3 * i, none⟩), .int .i64 (k : Int)] w fun e w' => e = .returned (.tuple #[]) ∧ RestartW base who w T ga cap i L x (runS x.l ((stsX x.p).take k)) w' := by
  have hi := (List.getElem?_eq_some_iff.1 hx).1
  have hrl : (runS x.l ((stsX x.p).take k)).length ≤ 10000000 := by have := runS_length ((stsX x.p).take k) x.l; rw [List.length_take] at this; omega
  have HS := Lib.hid (settle_any base who w T ga cap i k L x h hx hf hok hl hpl hk hb)
  generalize runS x.l ((stsX x.p).take k) = b at *
  clear h hok hl hpl hf
  go_enter Try.func52, Try.ntmps52
  go_wp2_with fail
  refine HS.out.mono ?_
  rintro e w1 ⟨rfl, who1, lv, h1, ht1, hf1⟩
  obtain ⟨x1, hx1e⟩ : ∃ x1 : AX, x1 = { x with lv := lv, l := b, pv := .slice none 0 0, p := [] } := ⟨_, rfl⟩
  rw [← hx1e] at h1
  have hx1 := List.getElem?_set_self (a := x1) hi
  have ha1 := h1.each i _ hx1
  have hc1 := (h1.cells hx1).1
  have ho1 := ha1.c
  obtain ⟨A, c, hv, hA1, hA2, hA3, hA4⟩ := row_slice ho1
  rw [hv] at hc1 ho1
  have HC := Lib.hid (cut_any ga (3 * i) x1.c.length 0 c A w1 hc1 (h1.free _) (Nat.zero_le _) hA1 hA2 (fun g o s e => (hA4 g o s e).2.1) hA3)
  obtain ⟨who2, h2, ht2, hf2⟩ := h1.putC (v' := .slice A 0 c) hx1 hf1 ⟨rfl, rfl, rfl, Nat.le_refl _, fun _ _ _ => rfl⟩ (.inl (by rw [hv]; cases A <;> rfl)) (ho1.cut (Nat.zero_le _))
  rw [List.set_set] at h2
  rw [List.length_set] at ht2
  obtain ⟨w2, hw2⟩ : ∃ w2, w1.setCell ⟨ga, 3 * i, none⟩ (.slice A 0 c) = w2 := ⟨_, rfl⟩
  rw [hw2] at HC h2 ht2 hf2
  obtain ⟨x2, hx2e⟩ : ∃ x2 : AX, x2 = { x1 with cv := .slice A 0 c, c := x1.c.take 0 } := ⟨_, rfl⟩
  rw [← hx2e] at h2
  have hx2 := List.getElem?_set_self (a := x2) hi
  have ha2 := h2.drew.each i _ hx2
  have hcs := h2.cells hx2
  have hol := ha2.l
  obtain ⟨Al, cl, hvl, hsl, hbl⟩ := OB.sl hol
  have hl2 : x2.l = b := by rw [hx2e, hx1e]
  have hc2 : x2.c = [] := by rw [hx2e]; rfl
  have cl2 := hcs.2.1
  obtain ⟨x2l, hx2l⟩ : ∃ q, q = x2.l := ⟨_, rfl⟩
  rw [hvl, ← hx2l] at cl2
  have hb2 : base ≤ w2.heap.size := Nat.le_trans hb (Nat.le_trans ht1.size ht2.size)
  have HG := Lib.hid (grow_any base ga (3 * i) x2.cv x2.c Al cl x2l.length x2.l w2.drew hcs.1 (h2.free _) ha2.c hsl (by rw [hx2l]) (fun e => by have := ha2.wc ga e; have := h2.wg; omega) (by rw [hl2, hc2]; simp; omega) hb2)
  have hdif : x2.cv.ownBlock ≠ some ga := fun e => by have := ha2.wc ga e; have := h2.wg; omega
  have HCL := Lib.hid (fun (w3 : World) (hg : GrowW base ⟨ga, 3 * i, none⟩ x2.cv x2.c x2.l w2.drew w3) => show w3.cell? ⟨ga, 3 * i + 1, none⟩ = some (.slice Al x2l.length cl) from by
    obtain ⟨v', w1', ho, hgr, hk', rfl⟩ := hg
    obtain ⟨who3, h3, _, _⟩ := h2.drew.putC hx2 hf2 hgr hk' ho
    rw [List.set_set] at h3
    have := (h3.cells (List.getElem?_set_self hi)).2.1
    rw [show x2.lv = Value.slice Al x2.l.length cl from hvl, ← hx2l] at this
    exact this)
  have HH2 := Lib.hid h2
  have HF2 := Lib.hid hf2
  have HT := Lib.hid (ht1.trans ht2)
  have HX2 := Lib.hid hx2
  have HE := Lib.hid hx2e
  have HE1 := Lib.hid hx1e
  have HL2 := Lib.hid hl2
  have HC2 := Lib.hid hc2
  clear h1 ht1 hf1 hx1 ha1 hc1 ho1 hv hA1 hA2 hA3 hA4 h2 ht2 hf2 hw2 hx2 ha2 hcs hol hvl hsl hbl hl2 hc2 hx2l hx2e hx1e hdif
  go_wp2_with fail
  refine HC.out.mono ?_
  rintro e w' ⟨rfl, rfl⟩
  go_wp2_with fail
  refine wp_region_held_drew (S := (fun w' => w'.cell? ⟨ga, 3 * i + 1, none⟩ = some (.slice Al x2l.length cl) ∧ AnyA w')) (by kernel_rfl) ⟨cl2, trivial⟩ (fun hHeld => ?_)
  refine wpAnyH_take (i := 0) (v := ?vr0) rfl (by kernel_rfl) (by kernel_rfl) (by kernel_rfl) (fun _ _ _ h => h) (Or.inl ⟨by rfl, ?yr0⟩) (by assumption) ?rr0
  case yr0 =>
    intro w hSw
    (try dsimp only at hSw)
    go_simp
    first | done | with_reducible rfl
  try simp only [Act.put, List.getElem_toArray, List.getElem_cons_zero, List.setIfInBounds_toArray, List.set_cons_zero, List.set_cons_succ]
  refine wpAnyH_take (i := 1) (v := ?vr1) rfl (by kernel_rfl) (by kernel_rfl) (by kernel_rfl) (fun _ _ _ h => h) (Or.inl ⟨by rfl, ?yr1⟩) (by assumption) ?rr1
  case yr1 =>
    intro w hSw
    (try dsimp only at hSw)
    go_simp
    first | done | with_reducible rfl
  try simp only [Act.put, List.getElem_toArray, List.getElem_cons_zero, List.getElem_cons_succ, List.setIfInBounds_toArray, List.set_cons_zero, List.set_cons_succ]
  refine wpAnyH_take (i := 2) (v := ?vr2) rfl (by kernel_rfl) (by kernel_rfl) (by kernel_rfl) (fun _ _ _ h => h) (Or.inl ⟨by rfl, ?yr2⟩) (by assumption) ?rr2
  case yr2 =>
    intro w hSw
    (try dsimp only at hSw)
    go_simp
    first | done | with_reducible rfl
  try simp only [Act.put, List.getElem_toArray, List.getElem_cons_zero, List.getElem_cons_succ, List.setIfInBounds_toArray, List.set_cons_zero, List.set_cons_succ]
  refine wpAnyH_take (i := 3) (v := ?vr3) rfl (by kernel_rfl) (by kernel_rfl) (by kernel_rfl) (fun _ _ _ h => h) (Or.inl ⟨by rfl, ?yr3⟩) (by assumption) ?rr3
  case yr3 =>
    intro w hSw
    (try dsimp only at hSw)
    go_simp
    first | done | with_reducible rfl
  try simp only [Act.put, List.getElem_toArray, List.getElem_cons_zero, List.getElem_cons_succ, List.setIfInBounds_toArray, List.set_cons_zero, List.set_cons_succ]
  refine wpAnyH_take (i := 4) (v := ?vr4) rfl (by kernel_rfl) (by kernel_rfl) (by kernel_rfl) (fun _ _ _ h => h) (Or.inl ⟨by rfl, ?yr4⟩) (by assumption) ?rr4
  case yr4 =>
    intro w hSw
    (try dsimp only at hSw)
    go_simp
    first | done | with_reducible rfl
  try simp only [Act.put, List.getElem_toArray, List.getElem_cons_zero, List.getElem_cons_succ, List.setIfInBounds_toArray, List.set_cons_zero, List.set_cons_succ]
  refine wpAnyH_take (i := 5) (v := ?vr5) rfl (by kernel_rfl) (by kernel_rfl) (by kernel_rfl) (fun _ _ _ h => h) (Or.inl ⟨by rfl, ?yr5⟩) (by assumption) ?rr5
  case yr5 =>
    intro w hSw
    (try dsimp only at hSw)
    go_simp
    first | done | with_reducible rfl
  try simp only [Act.put, List.getElem_toArray, List.getElem_cons_zero, List.getElem_cons_succ, List.setIfInBounds_toArray, List.set_cons_zero, List.set_cons_succ]
  refine wpAnyH_take (i := 6) (v := ?vr6) rfl (by kernel_rfl) (by kernel_rfl) (by kernel_rfl) (fun _ _ _ h => h) (Or.inl ⟨by rfl, ?yr6⟩) (by assumption) ?rr6
  case yr6 =>
    intro w hSw
    (try dsimp only at hSw)
    go_simp
    first | done | with_reducible rfl
  try simp only [Act.put, List.getElem_toArray, List.getElem_cons_zero, List.getElem_cons_succ, List.setIfInBounds_toArray, List.set_cons_zero, List.set_cons_succ]
  refine wpAnyH_ready (rs := [7]) (by kernel_rfl) (by simp) ?_
  refine AllReadyH.cons rfl (fun K hK => ?_) AllReadyH.nil
  go_simp
  refine HG.out.mono ?_
  rintro e w3 ⟨rfl, hg⟩
  have HW := Lib.hid hg
  have hcl := HCL.out w3 hg
  clear hg
  go_wp2_with fail
  refine hK.out _ _ ⟨hcl, trivial⟩ (fun hHeld => ?_)
  clear hK K
  try simp only [Act.put, List.getElem_toArray, List.getElem_cons_zero, List.getElem_cons_succ, List.setIfInBounds_toArray, List.set_cons_zero, List.set_cons_succ]
  refine wpAnyH_done (by kernel_rfl) ?_ _
  obtain ⟨v', w1', ho, hgr, hk', rfl⟩ := HW.out
  obtain ⟨who3, h3, ht3, hf3⟩ := HH2.out.drew.putC HX2.out HF2.out hgr hk' ho
  rw [List.set_set] at h3
  rw [List.length_set] at ht3
  rw [HC2.out, HL2.out, List.nil_append] at h3
  have HFIN := Lib.hid (show RestartW base who w T ga cap i L x b (w1'.setCell ⟨ga, 3 * i, none⟩ v') from ⟨who3, v', lv, by rw [HE.out, HE1.out] at h3; exact h3, HT.out.trans ht3.drewn, hf3⟩)
  clear h3 ht3 hf3 ho hgr hk' hHeld hcl
  go_wp2_with fail
  go_returns
  exact ⟨rfl, HFIN.out⟩

theorem set_map_ar {L : List AX} {i : Nat} {x x' : AX} {f : DAr → DAr} (hx : L[i]? = some x) (hf : x'.ar = f x.ar) : (L.set i x').map AX.ar = (L.map AX.ar).modify i f := by
  apply List.ext_getElem?
  intro j
  rw [List.getElem?_map, List.getElem?_modify, List.getElem?_map]
  by_cases e : i = j
  · subst e
    rw [List.getElem?_set_self (List.getElem?_eq_some_iff.1 hx).1, hx]
    simp [hf]
  · rw [List.getElem?_set_ne e]
    simp [e]
theorem mem_set {L : List AX} {i : Nat} {x' : AX} {P : AX → Prop} (h : ∀ x ∈ L, P x) (hx' : P x') : ∀ x ∈ L.set i x', P x := fun x hx => by
  rcases List.mem_or_eq_of_mem_set hx with h1 | rfl
  · exact h x h1
  · exact hx'
/-- A disk that has turned. -/
def DkW (base : Nat) (who : Nat → Nat) (w : World) (T g : Nat) (d : DDk) (w' : World) : Prop :=
  ∃ who', DiskAt base who' w' T g d ∧ Turn T (T + 26) who w who' w' ∧ Fresh who' w'
theorem AX.ok.add {x : AX} {s : SX} (h : x.ok) (hs : okS x.c s.sts) (h0 : 0 < s.sts.length) (cv pv : Value) : AX.ok { x with cv := cv, pv := pv, c := runS x.c s.sts, p := x.p ++ [s] } ∧ AX.ar { x with cv := cv, pv := pv, c := runS x.c s.sts, p := x.p ++ [s] } = ⟨x.ar.l, x.ar.p ++ s.sts⟩ := by
  obtain ⟨h1, h2, h3⟩ := h
  have e : stsX (x.p ++ [s]) = stsX x.p ++ s.sts := by unfold stsX; rw [List.flatMap_append]; simp
  refine ⟨⟨?_, ?_, ?_⟩, ?_⟩
  · show runS x.c s.sts = runS x.l (stsX (x.p ++ [s]))
    rw [e, runS_append, h1]; rfl
  · show okS x.l (stsX (x.p ++ [s]))
    rw [e, okS_append]
    exact ⟨h2, by rw [h1] at hs; exact hs⟩
  · show (x.p ++ [s]).length ≤ (stsX (x.p ++ [s])).length
    rw [e, List.length_append, List.length_append]
    simp; omega
  · show (⟨x.l, stsX (x.p ++ [s])⟩ : DAr) = _
    rw [e]; rfl
theorem OnlyB.turn {w w' : World} {g T : Nat} {who : Nat → Nat} (h : OnlyB w g w') (hg : who g = T) : Turn T (T + 26) who w who w' :=
  ⟨h.os, h.tape, h.output, by rw [h.size]; exact Nat.le_refl _, fun b _ hn => h.block b (fun e => hn (by subst e; omega)), fun _ _ => rfl⟩
theorem OnlyB.areas {base : Nat} {who : Nat → Nat} {w w' : World} {T g ga cap : Nat} {L : List AX} (h : AreasAt base who w T ga cap L) (ho : OnlyB w g w') (hT : 0 < T) (hg : who g = T) : AreasAt base who w' T ga cap L :=
  h.keep fun b _ h0 => ⟨ho.block b (fun e => by subst e; omega), rfl⟩
/-- Behind a change of an area. -/
theorem disk_changed {base : Nat} {who : Nat → Nat} {w w' : World} {T g ga cap i : Nat} {L : List AX} {x : AX} {s : SX} {d : DDk} (h1 : HeadAt w g d.pw d.dead (.slice (some ⟨ga, 0, none⟩) L.length cap) d.room) (h2 : who g = T) (h3 : base ≤ g) (h5 : d.as = L.map AX.ar) (h6 : ∀ x ∈ L, x.ok) (h7 : d.sane) (h8 : L.length ≤ 8) (hx : L[i]? = some x) (hs : okS x.c s.sts) (h0 : 0 < s.sts.length)
    (hc : ChangeW base who w T ga cap i L x (runS x.c s.sts) (x.p ++ [s]) w') : DkW base who w T g (d.add i s.sts) w' := by
  obtain ⟨who', cv, pv, h9, ht, hf⟩ := hc
  obtain ⟨k1, k2⟩ := (h6 x (List.mem_of_getElem? hx)).add hs h0 cv pv
  have hg := h1.cells.1
  refine ⟨who', ⟨ga, cap, L.set i { x with cv := cv, pv := pv, c := runS x.c s.sts, p := x.p ++ [s] }, ?_, (ht.same g hg).trans h2, h3, h9, ?_, mem_set h6 k1, h7⟩, ht.wider (by omega) (by omega), hf⟩
  · rw [List.length_set]
    exact h1.keep (ht.block g hg (by rw [h2]; omega))
  · show addAt d.as i s.sts = _
    rw [h5, set_map_ar (f := fun y => ⟨y.l, y.p ++ s.sts⟩) hx k2]; rfl
theorem disk_settled {base : Nat} {who : Nat → Nat} {w w' : World} {T g ga cap i : Nat} {L : List AX} {x : AX} {d : DDk} (h1 : HeadAt w g d.pw d.dead (.slice (some ⟨ga, 0, none⟩) L.length cap) d.room) (h2 : who g = T) (h3 : base ≤ g) (h5 : d.as = L.map AX.ar) (h6 : ∀ x ∈ L, x.ok) (h7 : d.sane) (h8 : L.length ≤ 8) (hx : L[i]? = some x)
    (hc : SettleW base who w T ga cap i L x x.ar.now w') : DkW base who w T g (d.settle i) w' := by
  obtain ⟨who', lv, h9, ht, hf⟩ := hc
  have hg := h1.cells.1
  have hxo := h6 x (List.mem_of_getElem? hx)
  refine ⟨who', ⟨ga, cap, L.set i { x with lv := lv, l := x.ar.now, pv := .slice none 0 0, p := [] }, ?_, (ht.same g hg).trans h2, h3, h9, ?_, mem_set h6 ⟨hxo.1, trivial, Nat.zero_le _⟩, h7⟩, ht.wider (by omega) (by omega), hf⟩
  · rw [List.length_set]
    exact h1.keep (ht.block g hg (by rw [h2]; omega))
  · show d.as.modify i _ = _
    rw [h5, set_map_ar (f := fun y => ⟨y.now, []⟩) hx rfl]
end Go.Proofs.Ytojkifcclgecoaa.Dk
