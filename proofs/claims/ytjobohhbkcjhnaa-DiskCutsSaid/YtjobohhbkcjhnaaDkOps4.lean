/-
  What is done to a disk: Restart.
-/
import Derived.Test.YtjobohhbkcjhnaaDkOps
namespace Go.Proofs.Ytjobohhbkcjhnaa
open Go Go.RowKit Go.Shelf Go.Proofs

def RInv (base : Nat) (who : Nat → Nat) (w : World) (T g ga cap : Nat) (L : List AX) (d : DDk) (k i : Nat) (wr : World) : Prop :=
  ∃ who' L', HeadAt wr g d.pw d.dead (.slice (some ⟨ga, 0, none⟩) L.length cap) d.room ∧ AreasAt base who' wr T ga cap L' ∧ L'.length = L.length ∧ (∀ j, i ≤ j → L'[j]? = L[j]?) ∧ L'.map AX.ar = (d.as.take i).map (keepA k) ++ d.as.drop i ∧ (∀ y ∈ L', y.ok) ∧ Turn (T + 1) (T + 2 + 3 * L.length) who w who' wr ∧ Fresh who' wr
theorem keep_step {l : List DAr} {i : Nat} {x : DAr} (k : Nat) (h : l[i]? = some x) : ((l.take i).map (keepA k) ++ l.drop i).modify i (fun y => keepA k y) = (l.take (i + 1)).map (keepA k) ++ l.drop (i + 1) := by
  have hi := (List.getElem?_eq_some_iff.1 h).1
  apply List.ext_getElem?
  intro j
  rw [List.getElem?_modify]
  simp only [List.getElem?_append, List.length_map, List.length_take, List.getElem?_map, List.getElem?_take, List.getElem?_drop]
  by_cases h1 : j < i
  · have hne : ¬ i = j := by omega
    rw [if_pos (show j < min i l.length by omega), if_pos h1, if_pos (show j < min (i + 1) l.length by omega), if_pos (show j < i + 1 by omega)]
    simp [hne]
  · by_cases h2 : i = j
    · subst h2
      rw [if_neg (show ¬ i < min i l.length by omega), if_pos (show i < min (i + 1) l.length by omega), if_pos (show i < i + 1 by omega), show i + (i - min i l.length) = i by omega]
      simp
    · rw [if_neg (show ¬ j < min i l.length by omega), if_neg (show ¬ j < min (i + 1) l.length by omega), show i + (j - min i l.length) = i + 1 + (j - min (i + 1) l.length) by omega]
      simp [h2]
theorem RInv.step {base : Nat} {who : Nat → Nat} {w wr : World} {T g ga cap k i n : Nat} {L : List AX} {d : DDk} (h : RInv base who w T g ga cap L d k i wr) (hi : i < L.length) (h2 : who g = T) (hgl : g < w.heap.size) (h5 : d.as = L.map AX.ar) (hd : d.fits n) (hn : n ≤ 1000000) (hk : k ≤ 9223372036854775807) (hb : base ≤ w.heap.size) :
    Calls Try.prog 45 #[.pointer (some ⟨ga, i * 3, none⟩), .int .i64 (k : Int)] wr fun e w' => e = .returned (.tuple #[]) ∧ RInv base who w T g ga cap L d k (i + 1) w' := by
  obtain ⟨who1, L1, k1, k2, k3, k4, k5, k6, k7, k8⟩ := h
  obtain ⟨x, hx⟩ : ∃ x, L[i]? = some x := ⟨_, List.getElem?_eq_getElem hi⟩
  have hx1 : L1[i]? = some x := by rw [k4 i (Nat.le_refl _)]; exact hx
  have hxo := k6 x (List.mem_of_getElem? hx1)
  have har := ar_at h5 hx
  have hfx := fits_at hd har
  have e6 : x.ar.p.length = (stsX x.p).length := rfl
  have e7 : x.ar.l.length = x.l.length := rfl
  have := restart_any base who1 wr T ga cap i k L1 x k2 hx1 k8 hxo.2.1 (by omega) (by have := hxo.2.2; omega) hk (Nat.le_trans hb k7.size)
  rw [Nat.mul_comm i 3]
  refine this.mono ?_
  rintro e w' ⟨rfl, who2, cv, lv, m1, m2, m3⟩
  have hg1 := k1.cells.1
  have hwg : who1 g = T := (k7.same g hgl).trans h2
  refine ⟨rfl, who2, _, k1.keep (m2.block g hg1 (by rw [hwg]; omega)), m1, by rw [List.length_set]; exact k3, fun j hj => ?_, ?_, mem_set k6 ⟨rfl, trivial, Nat.zero_le _⟩, k7.trans (by rw [k3] at m2; exact m2), m3⟩
  · rw [List.getElem?_set_ne (by omega)]; exact k4 j (by omega)
  · rw [set_map_ar (f := fun y => keepA k y) hx1 rfl, k5, keep_step k har]
set_option maxRecDepth 100000 in
set_option maxHeartbeats 16000000 in
theorem restart_disk (base : Nat) (who : Nat → Nat) (w : World) (T g : Nat) (d : DDk) (n : Nat) (k : Int) (hT : 0 < T) (h : DiskAt base who w T g d) (hd : d.fits n) (hn : n ≤ 1000000) (hf : Fresh who w) (hb : base ≤ w.heap.size) (hk : k ≤ 9223372036854775807) :
    Calls Try.prog 26 #[.pointer (some ⟨g, 0, none⟩), .int .i64 k] w fun e w' => e = .returned (.tuple #[]) ∧ DkW base who w T g (d.restart k) w' := by
  obtain ⟨q, hq⟩ : ∃ q : Nat, max k 0 = (q : Int) := ⟨k.toNat, by omega⟩
  have hkq : k.toNat = q := by omega
  obtain ⟨ga, cap, L, h1, h2, h3, h4, h5, h6, h7⟩ := h
  obtain ⟨hlt, _, _, c3, _⟩ := h1.cells
  have h8 : L.length ≤ 8 := by have := hd.1; rw [h5, List.length_map] at this; exact this
  have H0 := Lib.hid (show RInv base who w T g ga cap L d q 0 w from ⟨who, L, h1, h4, rfl, fun _ _ => rfl, by rw [List.take_zero, List.drop_zero, h5]; rfl, h6, Turn.refl _ _ _ _, hf⟩)
  have HST := Lib.hid (fun (i : Nat) (wr : World) (hi : i < L.length) (h : RInv base who w T g ga cap L d q i wr) => RInv.step h hi h2 hlt h5 hd hn (by omega) hb)
  have HEND := Lib.hid (fun (wr : World) (h : RInv base who w T g ga cap L d q L.length wr) => show DkW base who w T g (d.restart k) (((wr.setCell ⟨g, 0, none⟩ (.bool false)).setCell ⟨g, 1, none⟩ (.int .i64 0)).setCell ⟨g, 2, none⟩ (.bool false)) from by
    obtain ⟨who1, L1, k1, k2, k3, k4, k5, k6, k7, k8⟩ := h
    have hwg : who1 g = T := (k7.same g hlt).trans h2
    obtain ⟨u, hu, _⟩ := k1
    have e1 := heap_setCell_same wr g 0 _ _ (.bool false) hu
    have e2 := heap_setCell_same _ g 1 _ _ (.int .i64 0) e1
    have e3 := heap_setCell_same _ g 2 _ _ (.bool false) e2
    have ho := ((OnlyB.set wr g 0 (.bool false)).trans (OnlyB.set _ g 1 (.int .i64 0))).trans (OnlyB.set _ g 2 (.bool false))
    have hll : d.as.length = L.length := by rw [h5, List.length_map]
    rw [← hll, List.take_length, List.drop_length, List.append_nil] at k5
    refine ⟨who1, ⟨ga, cap, L1, ⟨0, ?_, fun k' e' => by cases e'⟩, hwg, h3, OnlyB.areas k2 ho hT hwg, ?_, k6, fun e => by cases e⟩, (k7.wider (by omega) (by omega)).trans (ho.turn hwg), Fresh.only k8 ho⟩
    · rw [k3]; exact e3
    · show d.as.map (keepA k.toNat) = _
      rw [hkq]; exact k5.symm)
  have HC3 := Lib.hid (fun (i : Nat) (wr : World) (h : RInv base who w T g ga cap L d q i wr) => show wr.cell? ⟨g, 3, none⟩ = some (.slice (some ⟨ga, 0, none⟩) L.length cap) ∧ (∃ b, wr.cell? ⟨g, 0, none⟩ = some (.bool b)) ∧ (∃ u, wr.cell? ⟨g, 1, none⟩ = some (.int .i64 u)) ∧ (∃ b, wr.cell? ⟨g, 2, none⟩ = some (.bool b)) ∧ (∀ j, wr.frozen? ⟨g, j, none⟩ = false) from by
    obtain ⟨who1, L1, k1, _⟩ := h
    obtain ⟨_, b0, b2, b3, _, _, b1, f⟩ := k1.cells
    exact ⟨b3, ⟨_, b0⟩, b1, ⟨_, b2⟩, f⟩)
  clear h1 h2 h3 h4 h5 h6 h7 hd hf hkq
  go_enter Try.func26, Try.ntmps26
  go_wp2_with fail
  go_loopw [12] (fun y wr => ∃ (i : Nat), i ≤ L.length ∧ y = .int .i64 i ∧ Hid (RInv base who w T g ga cap L d q i wr)) (fun y _ => L.length - (intOf y).toNat)
  case atStart => exact ⟨0, Nat.zero_le _, rfl, H0⟩
  case round =>
    obtain ⟨i, hi, rfl, HR⟩ := hrel
    obtain ⟨r3, ⟨b0, r0⟩, ⟨u, r1⟩, ⟨b2, r2⟩, f⟩ := HC3.out i wr HR.out
    by_cases k1 : i < L.length
    · have HS := Lib.hid (HST.out i wr k1 HR.out)
      clear c3 r0 r1 r2 f
      go_wp2_with fail
      refine HS.out.mono ?_
      rintro e w1 ⟨rfl, hr⟩
      have HR1 := Lib.hid hr
      clear hr
      go_wp2_with fail
      go_roundw
      case rel => exact ⟨i + 1, by omega, by go_num, HR1⟩
      case measure => simp [intOf]; omega
    · obtain rfl : i = L.length := by omega
      have HE := Lib.hid (HEND.out wr HR.out)
      have f0 := f 0
      have f1 := f 1
      have f2 := f 2
      clear f c3
      go_wp2_with fail
      go_returns
      exact ⟨rfl, HE.out⟩
end Go.Proofs.Ytjobohhbkcjhnaa
