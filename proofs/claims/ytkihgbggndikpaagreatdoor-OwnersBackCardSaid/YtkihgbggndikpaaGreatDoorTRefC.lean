/-
  The contracts of the document's own answers: slash, Dir, Base, Join, Under. · The contract of the document's own answer: fits. · The contract of the document's own answer: Match. · The contracts of the document's own answers of layer 2: find, Drop, Put, Same. · tree.Select. · The contracts of the document's own answers of layer 2: Get, Select, SameTexts.
-/
import Derived.Test.YtkihgbggndikpaaGreatDoorBase
import Derived.Test.YtkihgbggndikpaaGreatDoorRefGlob
import Derived.OwnWalk
import Derived.RegionTactic
import Derived.BigRegion
import Derived.IntWalk
import Derived.Test.YtkihgbggndikpaaGreatDoorMatch
import Derived.Deep.RegionHeld3
import Derived.Test.YtkihgbggndikpaaGreatDoorTSizes
import Derived.Test.YtkihgbggndikpaaGreatDoorTPuts
namespace Go.Proofs.YtkihgbggndikpaaGreatDoor
open Go Go.RowKit Go.Shelf Go.Proofs
attribute [local go_sem] Oper.semAt_some

set_option maxHeartbeats 1000000 in
theorem refslash_any (s : ByteArray) (w : World) (hs : s.size ≤ 1000000) :
    Calls Tryz.prog 64 #[.string s] w fun e w' => e = .returned (.int .i64 (Lib.lastIndexByte s 47)) ∧ w' = w := by
  have h0 : Lib.lastIdx s 47 0 = -1 := rfl
  go_enter Tryz.func64, Tryz.ntmps64
  go_wp2_with fail
  go_loop [3, 4] (fun v i => ∃ k : Nat, k ≤ s.size ∧ i = .int .i64 k ∧ v = .int .i64 (Lib.lastIdx s 47 k)) (fun _ i => s.size - (intOf i).toNat)
  case atStart => exact ⟨0, Nat.zero_le _, rfl, rfl⟩
  case round =>
    obtain ⟨k, hk, rfl, rfl⟩ := hrel
    by_cases hlt : k < s.size
    · have hb2 : s.data[k]! = s[k] := getElem!_pos s.data k hlt
      obtain ⟨b, hb⟩ : ∃ b, s[k] = b := ⟨_, rfl⟩
      rw [hb] at hb2
      by_cases hc : ((b.toNat : Int)) = 47
      · have hl := Lib.lastIdx_hit s 47 k (by rw [hb2]; exact hc)
        have hc2 : ((b.toNat : Int) == 47) = true := by rw [hc]; rfl
        have HL := Lib.hid hl; clear hl
        clear hb2
        go_wp2_with fail
        go_round
        case rel => exact ⟨k + 1, by omega, by go_num, by rw [HL.out]⟩
        case measure => simp [intOf]; omega
      · have hl := Lib.lastIdx_miss s 47 k (by rw [hb2]; exact hc)
        have hc2 : ((b.toNat : Int) == 47) = false := by rw [beq_eq_false_iff_ne]; exact hc
        have HL := Lib.hid hl; clear hl
        clear hb2
        go_wp2_with fail
        go_round
        case rel => exact ⟨k + 1, by omega, by go_num, by rw [HL.out]⟩
        case measure => simp [intOf]; omega
    · have hk2 : k = s.size := by omega
      subst hk2
      go_wp2_with fail
      go_ret
      exact ⟨rfl, rfl⟩

set_option maxHeartbeats 1000000 in
theorem refdir_any (s : ByteArray) (w : World) (hs : s.size ≤ 1000000) :
    Calls Tryz.prog 27 #[.string s] w fun e w' => e = .returned (.string (dirA s)) ∧ w' = w := by
  rcases Lib.lastIndexByte_spec s 47 with ⟨hk, _⟩ | ⟨i, hi, hk, _⟩
  · have hr : dirA s = ⟨#[]⟩ := by
      unfold dirA; rw [hk, ← data_mkB (s.extract _ _), Lib.extract_data]; rfl
    have HR := Lib.hid hr; clear hr
    have HK := Lib.hid hk; clear hk
    go_enter Tryz.func27, Tryz.ntmps27
    go_wp2_with fail
    refine (refslash_any s _ hs).mono ?_
    rintro e w' ⟨rfl, hw⟩
    have hw := hw.symm; subst hw
    rw [HK.out]
    go_wp2_with fail
    go_ret
    exact ⟨by rw [HR.out]; rfl, rfl⟩
  · have hr : dirA s = s.extract 0 i := by unfold dirA; rw [hk, Int.max_eq_left (by omega)]; rfl
    have HR := Lib.hid hr; clear hr
    have HK := Lib.hid hk; clear hk
    go_enter Tryz.func27, Tryz.ntmps27
    go_wp2_with fail
    refine (refslash_any s _ hs).mono ?_
    rintro e w' ⟨rfl, hw⟩
    have hw := hw.symm; subst hw
    rw [HK.out]
    go_wp2_with fail
    go_ret
    exact ⟨by rw [HR.out]; rfl, rfl⟩

set_option maxHeartbeats 1000000 in
theorem refbase_any (s : ByteArray) (w : World) (hs : s.size ≤ 1000000) :
    Calls Tryz.prog 31 #[.string s] w fun e w' => e = .returned (.string (baseA s)) ∧ w' = w := by
  rcases Lib.lastIndexByte_spec s 47 with ⟨hk, _⟩ | ⟨i, hi, hk, _⟩
  · have hr : baseA s = s := by unfold baseA; rw [hk]; simp
    have HR := Lib.hid hr; clear hr
    have HK := Lib.hid hk; clear hk
    go_enter Tryz.func31, Tryz.ntmps31
    go_wp2_with fail
    refine (refslash_any s _ hs).mono ?_
    rintro e w' ⟨rfl, hw⟩
    have hw := hw.symm; subst hw
    rw [HK.out]
    go_wp2_with fail
    go_ret
    exact ⟨by rw [HR.out]; rfl, rfl⟩
  · have hr : baseA s = s.extract (i + 1) s.size := by unfold baseA; rw [hk]; rfl
    have HR := Lib.hid hr; clear hr
    have HK := Lib.hid hk; clear hk
    go_enter Tryz.func31, Tryz.ntmps31
    go_wp2_with fail
    refine (refslash_any s _ hs).mono ?_
    rintro e w' ⟨rfl, hw⟩
    have hw := hw.symm; subst hw
    rw [HK.out]
    go_wp2_with fail
    go_ret
    exact ⟨by rw [HR.out]; rfl, rfl⟩

set_option maxHeartbeats 1000000 in
theorem refjoin_any (d s : ByteArray) (w : World) (hd : d.size ≤ 1000000) (hs : s.size ≤ 1000000) :
    Calls Tryz.prog 30 #[.string d, .string s] w fun e w' => e = .returned (.string (mkB (join2 d.data.toList s.data.toList))) ∧ w' = w := by
  by_cases h1 : d.toList = []
  · have g1 : d.toList.isEmpty = true := by simp [h1]
    have hr : mkB (join2 d.data.toList s.data.toList) = s := by unfold join2; rw [← ByteArray.toList_eq d, if_pos h1, data_mkB]
    have HR := Lib.hid hr; clear hr h1
    go_enter Tryz.func30, Tryz.ntmps30
    go_wp2_with fail
    go_ret
    exact ⟨by rw [HR.out]; rfl, rfl⟩
  · have g1 : d.toList.isEmpty = false := by simpa using h1
    by_cases h2 : s.toList = []
    · have g2 : s.toList.isEmpty = true := by simp [h2]
      have hr : mkB (join2 d.data.toList s.data.toList) = d := by unfold join2; rw [← ByteArray.toList_eq d, ← ByteArray.toList_eq s, if_neg h1, if_pos h2, ByteArray.toList_eq, data_mkB]
      have HR := Lib.hid hr; clear hr h1 h2
      go_enter Tryz.func30, Tryz.ntmps30
      go_wp2_with fail
      go_ret
      exact ⟨by rw [HR.out]; rfl, rfl⟩
    · have g2 : s.toList.isEmpty = false := by simpa using h2
      have hr : mkB (join2 d.data.toList s.data.toList) = d ++ ⟨#[47]⟩ ++ s := by
        unfold join2; rw [← ByteArray.toList_eq d, ← ByteArray.toList_eq s, if_neg h1, if_neg h2, ByteArray.toList_eq, ByteArray.toList_eq, ← data_mkB (d ++ ⟨#[47]⟩ ++ s)]
        congr 1
        simp only [ByteArray.data_append, Array.toList_append]
        simp
      have HR := Lib.hid hr; clear hr h1 h2
      go_enter Tryz.func30, Tryz.ntmps30
      go_wp2_with fail
      go_ret
      exact ⟨by rw [HR.out]; rfl, rfl⟩

theorem under2_parts (s d : ByteArray) (hd : d.toList ≠ []) (hl : d.size < s.size) :
    under2 s.data.toList d.data.toList = (((s.extract 0 d.size).toList == d.toList) && (((s[d.size]'hl).toNat : Int) == 47)) := by
  have e1 : d.data.toList.length = d.size := Array.length_toList
  have e2 : s.data.toList.length = s.size := Array.length_toList
  have he : d.data.toList.isEmpty = false := by rw [ByteArray.toList_eq] at hd; simpa using hd
  have hk : s.data.toList[d.size]? = some s[d.size] := by rw [List.getElem?_eq_getElem (by omega)]; rfl
  have hsp := drop_some hk
  unfold under2
  rw [he, Bool.false_or, ByteArray.toList_eq, ByteArray.toList_eq, Lib.extract_data, Bool.eq_iff_iff, List.isPrefixOf_iff_prefix, Bool.and_eq_true, beq_iff_eq, beq_iff_eq]
  have h47 : (s[d.size].toNat : Int) = 47 ↔ s[d.size] = 47 := by
    rw [← UInt8.toNat_inj]; show _ ↔ _ = 47; omega
  rw [h47]
  simp only [List.drop_zero, Nat.sub_zero]
  constructor
  · rintro ⟨t, ht⟩
    have h1 : s.data.toList.take d.size = d.data.toList := by rw [← ht, ← e1]; simp
    refine ⟨h1, ?_⟩
    have : s.data.toList[d.size]? = some 47 := by rw [← ht, ← e1]; simp
    rw [hk] at this; exact Option.some.inj this
  · rintro ⟨h1, h2⟩
    refine ⟨s.data.toList.drop (d.size + 1), ?_⟩
    conv => rhs; rw [← List.take_append_drop d.size s.data.toList, hsp, h1, h2]
    simp

set_option maxHeartbeats 2000000 in
theorem refunder_any (s d : ByteArray) (w : World) (_hs : s.size ≤ 1000000) (hd : d.size ≤ 1000000) :
    Calls Tryz.prog 33 #[.string s, .string d] w fun e w' => e = .returned (.bool (under2 s.data.toList d.data.toList)) ∧ w' = w := by
  by_cases h1 : d.toList = []
  · have g1 : d.toList.isEmpty = true := by simp [h1]
    have hr : under2 s.data.toList d.data.toList = true := by unfold under2; rw [← ByteArray.toList_eq d, h1]; rfl
    have HR := Lib.hid hr; clear hr h1
    go_enter Tryz.func33, Tryz.ntmps33
    go_wp2_with fail
    go_ret
    exact ⟨ret_bool HR.out.symm, rfl⟩
  · have g1 : d.toList.isEmpty = false := by simpa using h1
    by_cases h2 : d.size < s.size
    · have hr := under2_parts s d h1 h2
      have h3 : (d.size : Int) < (s.size : Int) := by omega
      obtain ⟨b, hb⟩ : ∃ b, s[d.size] = b := ⟨_, rfl⟩
      rw [hb] at hr
      cases c1 : ((s.extract 0 d.size).toList == d.toList) with
      | false =>
        rw [c1] at hr
        have HR := Lib.hid hr; clear hr
        clear h1
        go_enter Tryz.func33, Tryz.ntmps33
        go_wp2_with fail
        go_ret
        exact ⟨ret_bool (by rw [HR.out]; rfl), rfl⟩
      | true =>
        cases c2 : ((b.toNat : Int) == 47) with
        | false =>
          rw [c1, c2] at hr
          have HR := Lib.hid hr; clear hr
          clear h1
          go_enter Tryz.func33, Tryz.ntmps33
          go_wp2_with fail
          go_ret
          exact ⟨ret_bool (by rw [HR.out]; rfl), rfl⟩
        | true =>
          rw [c1, c2] at hr
          have HR := Lib.hid hr; clear hr
          clear h1
          go_enter Tryz.func33, Tryz.ntmps33
          go_wp2_with fail
          go_ret
          exact ⟨ret_bool (by rw [HR.out]; rfl), rfl⟩
    · have hr : under2 s.data.toList d.data.toList = false := by
        have e1 : d.data.toList.length = d.size := Array.length_toList
        have e2 : s.data.toList.length = s.size := Array.length_toList
        have he : d.data.toList.isEmpty = false := by rw [ByteArray.toList_eq] at h1; simpa using h1
        unfold under2
        rw [he, Bool.false_or]
        cases e : (d.data.toList ++ [47]).isPrefixOf s.data.toList with
        | false => rfl
        | true =>
          have := (List.isPrefixOf_iff_prefix.1 e).length_le
          simp only [List.length_append, List.length_cons, List.length_nil] at this
          omega
      have h3 : ¬ ((d.size : Int) < (s.size : Int)) := by omega
      have h4 : (s.size : Int) ≤ (d.size : Int) := by omega
      have HR := Lib.hid hr; clear hr h1
      go_enter Tryz.func33, Tryz.ntmps33
      go_wp2_with fail
      go_ret
      exact ⟨ret_bool HR.out.symm, rfl⟩
end Go.Proofs.YtkihgbggndikpaaGreatDoor
namespace Go.Proofs.YtkihgbggndikpaaGreatDoor
open Go Go.RowKit Go.Shelf Go.Proofs
attribute [local go_sem] Oper.semAt_some

/-- A row of m bools in block g; the first lo of them are f's. -/
def RowB (W : World) (g m : Nat) (f : Nat → Bool) (lo : Nat) : Prop :=
  ∃ cs : Array Value, W.heap[g]? = some (.cells cs 4 (0, 0)) ∧ cs.size = m ∧ (∀ j, j < m → ∃ b, cs[j]? = some (.bool b)) ∧ ∀ j, j < lo → cs[j]? = some (.bool (f j))
theorem RowB.cell {W : World} {g m lo : Nat} {f : Nat → Bool} (h : RowB W g m f lo) (j : Nat) (hj : j < lo) : W.cell? ⟨g, j, none⟩ = some (.bool (f j)) := by
  obtain ⟨cs, h1, _, _, h4⟩ := h
  simp [World.cell?, h1, h4 j hj]
theorem RowB.some {W : World} {g m lo : Nat} {f : Nat → Bool} (h : RowB W g m f lo) (j : Nat) (hj : j < m) : ∃ b, W.cell? ⟨g, j, none⟩ = some (.bool b) := by
  obtain ⟨cs, h1, _, h3, _⟩ := h
  obtain ⟨b, hb⟩ := h3 j hj
  exact ⟨b, by simp [World.cell?, h1, hb]⟩
theorem RowB.frozen {W : World} {g m lo : Nat} {f : Nat → Bool} (h : RowB W g m f lo) (j : Nat) : W.frozen? ⟨g, j, none⟩ = false := by
  obtain ⟨cs, h1, _⟩ := h
  simp [World.frozen?, h1]
theorem RowB.lt {W : World} {g m lo : Nat} {f : Nat → Bool} (h : RowB W g m f lo) : g < W.heap.size := by
  obtain ⟨cs, h1, _⟩ := h
  exact (Array.getElem?_eq_some_iff.1 h1).1
theorem RowB.drew {W : World} {g m lo : Nat} {f : Nat → Bool} (h : RowB W g m f lo) : RowB W.drew g m f lo := h
theorem RowB.put {W : World} {g m k : Nat} {f : Nat → Bool} (h : RowB W g m f k) (hk : k < m) (b : Bool) (hb : b = f k) : RowB (W.setCell ⟨g, k, none⟩ (.bool b)) g m f (k + 1) := by
  obtain ⟨cs, h1, h2, h3, h4⟩ := h
  refine ⟨cs.setIfInBounds k (.bool b), ?_, by simp [h2], fun j hj => ?_, fun j hj => ?_⟩
  · obtain ⟨hlt, hk'⟩ := Array.getElem?_eq_some_iff.1 h1
    show (W.heap.modify g _)[g]? = _
    rw [Array.getElem?_eq_getElem (by rw [Array.size_modify]; exact hlt), Array.getElem_modify_self, hk']
    rfl
  · by_cases e : k = j
    · subst e; exact ⟨b, by simp [h2, hk]⟩
    · rw [Array.getElem?_setIfInBounds_ne e]; exact h3 j hj
  · by_cases e : k = j
    · subst e; simp [h2, hk, hb]
    · rw [Array.getElem?_setIfInBounds_ne e]; exact h4 j (by omega)
theorem RowB.other {W : World} {g m lo : Nat} {f : Nat → Bool} (h : RowB W g m f lo) {g' j : Nat} (hne : g ≠ g') (v : Value) : RowB (W.setCell ⟨g', j, none⟩ v) g m f lo := by
  obtain ⟨cs, h1, h2⟩ := h
  exact ⟨cs, (heap_setCell_other W ⟨g', j, none⟩ g v hne).trans h1, h2⟩
theorem RowB.kept {W W' : World} {g m lo : Nat} {f : Nat → Bool} (h : RowB W g m f lo) (hg : W.grownBy W' none) : RowB W' g m f lo := by
  have hlt := h.lt
  obtain ⟨cs, h1, h2⟩ := h
  exact ⟨cs, (hg.block g hlt (by simp)).trans h1, h2⟩
theorem RowB.below {n : Nat} {W W' : World} {g m lo : Nat} {f : Nat → Bool} (h : RowB W g m f lo) (hb : Below n W W') (hg : g < n) : RowB W' g m f lo := by
  obtain ⟨cs, h1, h2⟩ := h
  exact ⟨cs, (hb.block g hg).trans h1, h2⟩
theorem bool_info : (Tryz.prog.info? 4).map (fun i => (i.zero, i.size, i.bytes)) = some (some (.bool false), 1, 1) := by kernel_rfl
theorem rowB_made {W : World} {b g m : Nat} (h : W.ownsRow b 4 1 (.slice (some ⟨g, 0, none⟩) m m) m (madeCells #[.bool false] (m * 1)).toList) : RowB W g m (fun _ => false) m ∧ b ≤ g := by
  rcases h.2 with ⟨h0, _⟩ | ⟨g', cap, cur, hv, hbg, hh, hc1, _, hc2, htake⟩
  · cases h0
  · cases hv
    have hcell : ∀ j, j < m → cur[j]? = some (.bool false) := fun j hj => by
      have h1 : cur.toList[j]? = (madeCells #[Value.bool false] (m * 1)).toList[j]? := by
        rw [← htake, List.getElem?_take]
        have : j < m * 1 := by omega
        simp [hj]
      rw [Array.getElem?_toList] at h1
      rw [h1]
      simp [madeCells, hj]
      rw [Nat.mod_one]; rfl
    exact ⟨⟨cur, hh, by omega, fun j hj => ⟨false, hcell j hj⟩, fun j hj => hcell j hj⟩, hbg⟩
theorem RowB.again {W : World} {g m lo lo' : Nat} {f f' : Nat → Bool} (h : RowB W g m f lo) (hl : lo' ≤ lo) (he : ∀ j, j < lo' → f j = f' j) : RowB W g m f' lo' := by
  obtain ⟨cs, h1, h2, h3, h4⟩ := h
  exact ⟨cs, h1, h2, h3, fun j hj => by rw [← he j hj]; exact h4 j (by omega)⟩
theorem RowB.first {W : World} {g m : Nat} {f : Nat → Bool} (h : RowB W g m (fun _ => false) m) (hm : 0 < m) (h0 : f 0 = true) (hf : ∀ j, 0 < j → j < m → f j = false) : RowB (W.setCell ⟨g, 0, none⟩ (.bool true)) g m f m := by
  obtain ⟨cs, h1, h2, h3, h4⟩ := h
  refine ⟨cs.setIfInBounds 0 (.bool true), ?_, by simp [h2], fun j hj => ?_, fun j hj => ?_⟩
  · obtain ⟨hlt, hk'⟩ := Array.getElem?_eq_some_iff.1 h1
    show (W.heap.modify g _)[g]? = _
    rw [Array.getElem?_eq_getElem (by rw [Array.size_modify]; exact hlt), Array.getElem_modify_self, hk']
    rfl
  · by_cases e : 0 = j
    · subst e; exact ⟨true, by simp [h2, hm]⟩
    · rw [Array.getElem?_setIfInBounds_ne e]; exact h3 j hj
  · by_cases e : 0 = j
    · subst e; simp [h2, hm, h0]
    · rw [Array.getElem?_setIfInBounds_ne e, h4 j hj, hf j (by omega) hj]
theorem below_set {n : Nat} {W W' : World} (h : Below n W W') {g j : Nat} (hg : n ≤ g) (v : Value) : Below n W (W'.setCell ⟨g, j, none⟩ v) := h.setCell (p := ⟨g, j, none⟩) hg v

def fitM : UInt8 → Bool := fun c => c == 42
def fitO : UInt8 → UInt8 → Bool := fun c b => c == 63 || c == b

set_option maxRecDepth 100000 in
set_option maxHeartbeats 8000000 in
theorem reffits_any (p s : ByteArray) (w : World) (hp : p.size ≤ 1000) (hs : s.size ≤ 1000) :
    Calls Tryz.prog 67 #[.string p, .string s] w fun e w' => e = .returned (.bool (fitsB p.data.toList s.data.toList)) ∧ Below w.heap.size w w' := by
  obtain ⟨i0, hi, hz0, hz1, hz2⟩ := info_parts bool_info
  have hpl : p.data.toList.length = p.size := Array.length_toList
  have hsl : s.data.toList.length = s.size := Array.length_toList
  obtain ⟨F, hF⟩ : ∃ F, frontsB fitM fitO p.data.toList s.data.toList = F := ⟨_, rfl⟩
  have f0 : ∀ k, k ≤ s.size → F 0 k = decide (k = 0) := fun k hk => by rw [← hF]; exact fronts_none _ _ _ _ k (by omega)
  have fall : F p.size s.size = fitsB p.data.toList s.data.toList := by rw [← hF, ← hpl, ← hsl]; exact fronts_all _ _ _ _
  have hstep : ∀ i b, p.data.toList[i]? = some b → (fitM b = true → F (i + 1) 0 = F i 0 ∧ ∀ k, k < s.size → F (i + 1) (k + 1) = (F i (k + 1) || F (i + 1) k)) ∧
      (fitM b = false → F (i + 1) 0 = false ∧ ∀ k x, s.data.toList[k]? = some x → F (i + 1) (k + 1) = (F i k && fitO b x)) := fun i b hb => by
    rw [← hF]
    exact ⟨fun h => ⟨fronts_many_zero _ _ _ _ i b hb h, fun k hk => fronts_many _ _ _ _ i k b hb h (by omega)⟩, fun h => ⟨fronts_one_zero _ _ _ _ i b hb h, fun k x hx => fronts_one _ _ _ _ i k b x hb h hx⟩⟩
  rw [← fall]
  have F0 := Lib.hid f0; clear f0
  have HSTEP := Lib.hid hstep; clear hstep
  clear hF fall
  go_enter Tryz.func67, Tryz.ntmps67
  go_wp2_with (refine wpList_make_full _ rfl _ _ 98 rfl w.heap.size 4 i0 (.bool false) 1 Tryz.underlying98 hi hz0 hz1 .i64 .i64 _ _ (s.size + 1) rfl rfl (by go_num) (by go_num) (by rw [hz2]; omega) (by unfold maxLen; omega) (Nat.le_refl _) ?_; intro w1 hown hgrow; obtain ⟨hrow, hge⟩ := rowB_made hown; have hcell := hrow.cell 0 (by omega); have hfr := hrow.frozen 0)
  have hfirst := (hrow.first (f := F 0) (by omega) (by rw [F0.out 0 (by omega)]; rfl) (fun j h1 h2 => by rw [F0.out j (by omega)]; exact decide_eq_false (by omega)))
  have hb1 : Below w.heap.size w (w1.setCell ⟨w.heap.size, 0, none⟩ (.bool true)) := below_set ((Below.refl _ w).grown hgrow (Nat.le_refl _) (fun j ej => by cases ej)) (Nat.le_refl _) _
  clear hown hgrow hrow hge hcell hfr
  go_loopw [5, 6] (fun v i wr => ∃ (g k : Nat), k ≤ p.size ∧ v = .slice (some ⟨g, 0, none⟩) (s.size + 1) (s.size + 1) ∧ i = .int .i64 k ∧ w.heap.size ≤ g ∧ RowB wr g (s.size + 1) (F k) (s.size + 1) ∧ Below w.heap.size w wr) (fun _ i _ => p.size - (intOf i).toNat)
  case atStart => exact ⟨w.heap.size, 0, Nat.zero_le _, rfl, rfl, Nat.le_refl _, hfirst, hb1⟩
  case round =>
    obtain ⟨g, i, hik, rfl, rfl, hg, hrow, hbr⟩ := hrel
    have hW : w.heap.size ≤ wr.heap.size := hbr.size
    by_cases hlt : i < p.size
    · obtain ⟨b, hb⟩ : ∃ b, p[i] = b := ⟨_, rfl⟩
      have hb? : p.data.toList[i]? = some b := by rw [List.getElem?_eq_getElem (by omega), ← hb]; rfl
      obtain ⟨hmany, hone⟩ := HSTEP.out i b hb?
      have HB? := Lib.hid hb?; clear hb?
      have HM := Lib.hid hmany; clear hmany
      have HO := Lib.hid hone; clear hone
      go_wp2_with (refine wpList_make_full _ rfl _ _ 98 rfl w.heap.size 4 i0 (.bool false) 1 Tryz.underlying98 hi hz0 hz1 .i64 .i64 _ _ (s.size + 1) rfl rfl (by go_num) (by go_num) (by rw [hz2]; omega) (by unfold maxLen; omega) hW ?_; intro w2 hown hgrow)
      obtain ⟨hnow0, hge⟩ := rowB_made hown
      have hwas := hrow.kept hgrow
      have hne : g ≠ wr.heap.size := by have := hrow.lt; omega
      have hnow := hnow0.again (f' := F (i + 1)) (Nat.zero_le _) (fun j h => by omega)
      have hb2 : Below w.heap.size w w2 := hbr.grown hgrow hW (fun j ej => by cases ej)
      obtain ⟨h, hh⟩ : ∃ h, wr.heap.size = h := ⟨_, rfl⟩
      rw [hh] at hnow hne hge ⊢
      clear hown hgrow hnow0 hrow hbr
      go_loopw [8] (fun k wq => ∃ (m : Nat), m ≤ s.size + 1 ∧ k = .int .i64 m ∧ RowB wq g (s.size + 1) (F i) (s.size + 1) ∧ RowB wq h (s.size + 1) (F (i + 1)) m ∧ Below w.heap.size w wq) (fun k _ => s.size + 1 - (intOf k).toNat)
      case atStart => exact ⟨0, Nat.zero_le _, rfl, hwas, hnow, hb2⟩
      case round =>
        obtain ⟨m, hm, rfl, hw_, hn_, hbq⟩ := hrel
        by_cases hml : m ≤ s.size
        · have cw := hw_.cell m (by omega)
          obtain ⟨old, co⟩ := hn_.some m (by omega)
          have fr := hn_.frozen m
          by_cases h42 : b = 42
          · have hv : (b.toNat : Int) = 42 := by rw [h42]; rfl
            obtain ⟨st0, st⟩ := HM.out (by rw [h42]; rfl)
            cases m with
            | zero =>
              obtain ⟨c, hc⟩ : ∃ c, F i 0 = c := ⟨_, rfl⟩
              rw [hc] at cw st0
              have ST := Lib.hid st0; clear st0 st hc h42
              cases c <;>
              · go_wp2_with fail
                go_roundw
                case rel => exact ⟨0 + 1, by omega, by go_num, (hw_).other hne _, (hn_).put (by omega) _ (ST.out.symm), below_set (hbq) hge _⟩
                case measure => simp [intOf] <;> omega
            | succ j =>
              have cn := hn_.cell j (by omega)
              have st2 := st j (by omega)
              obtain ⟨c, hc⟩ : ∃ c, F i (j + 1) = c := ⟨_, rfl⟩
              obtain ⟨d, hd⟩ : ∃ d, F (i + 1) j = d := ⟨_, rfl⟩
              rw [hc] at cw st2
              rw [hd] at cn st2
              have ST := Lib.hid st2; clear st2 st0 st hc hd h42
              cases c <;> cases d <;>
              · go_wp2_with fail
                go_roundw
                case rel => exact ⟨j + 1 + 1, by omega, by go_num, (hw_).other hne _, (hn_).put (by omega) _ (ST.out.symm), below_set (hbq) hge _⟩
                case measure => simp [intOf] <;> omega
          · have hv : ¬ ((b.toNat : Int) = 42) := fun e => h42 (by rw [← UInt8.toNat_inj]; show _ = 42; omega)
            obtain ⟨st0, st⟩ := HO.out (by unfold fitM; rw [beq_eq_false_iff_ne]; exact h42)
            cases m with
            | zero =>
              have ST := Lib.hid st0; clear st0 st h42
              go_wp2_with fail
              go_region
              all_goals (try go_wp2_with fail)
              go_roundw
              case rel => exact ⟨0 + 1, by omega, by go_num, (hw_.drew).other hne _, (hn_.drew).put (by omega) _ (ST.out.symm), below_set (hbq.drew) hge _⟩
              case measure => simp [intOf] <;> omega
            | succ j =>
              have cwj := hw_.cell j (by omega)
              obtain ⟨x, hx⟩ : ∃ x, s[j] = x := ⟨_, rfl⟩
              have hx? : s.data.toList[j]? = some x := by rw [List.getElem?_eq_getElem (by omega), ← hx]; rfl
              have st2 := st j x hx?
              obtain ⟨c, hc⟩ : ∃ c, F i j = c := ⟨_, rfl⟩
              rw [hc] at cwj st2
              by_cases h63 : b = 63
              · have hv63 : (b.toNat : Int) = 63 := by rw [h63]; rfl
                have ho : fitO b x = true := by unfold fitO; rw [h63]; rfl
                rw [ho] at st2
                have ST := Lib.hid st2; clear st2 st0 st hc h42 h63 ho hx?
                cases c <;>
                · go_wp2_with fail
                  have lj0 : (0 : Int) ≤ (j : Int) := by omega
                  have lj1 : (j : Int) < (s.size : Int) + 1 := by omega
                  have lj2 : (j : Int) < (s.size : Int) := by omega
                  have lj3 : (i : Int) < (p.size : Int) := by omega
                  have lj4 : (0 : Int) ≤ (i : Int) := by omega
                  have lj5 : (0 : Int) ≤ (j : Int) + 1 := by omega
                  have lj6 : (j : Int) + 1 < (s.size : Int) + 1 := by omega
                  have wj : IntKind.i64.wrap (j : Int) = (j : Int) := IntWalk.i64_in _ (by omega)
                  go_region
                  all_goals (try go_wp2_with fail)
                  go_roundw
                  case rel => exact ⟨j + 1 + 1, by omega, by go_num, (hw_.drew).other hne _, (hn_.drew).put (by omega) _ (ST.out.symm), below_set (hbq.drew) hge _⟩
                  case measure => simp [intOf] <;> omega
              · have t63 : ((b.toNat : Int) == 63) = false := by rw [beq_eq_false_iff_ne]; exact fun e => h63 (by rw [← UInt8.toNat_inj]; show _ = 63; omega)
                by_cases hbx : b = x
                · subst hbx
                  have ho : fitO b b = true := by unfold fitO; simp
                  have tbx : ((b.toNat : Int) == (b.toNat : Int)) = true := beq_self_eq_true _
                  rw [ho] at st2
                  have ST := Lib.hid st2; clear st2 st0 st hc h42 h63 ho hx?
                  cases c <;>
                  · go_wp2_with fail
                    have lj0 : (0 : Int) ≤ (j : Int) := by omega
                    have lj1 : (j : Int) < (s.size : Int) + 1 := by omega
                    have lj2 : (j : Int) < (s.size : Int) := by omega
                    have lj3 : (i : Int) < (p.size : Int) := by omega
                    have lj4 : (0 : Int) ≤ (i : Int) := by omega
                    have lj5 : (0 : Int) ≤ (j : Int) + 1 := by omega
                    have lj6 : (j : Int) + 1 < (s.size : Int) + 1 := by omega
                    have wj : IntKind.i64.wrap (j : Int) = (j : Int) := IntWalk.i64_in _ (by omega)
                    go_region
                    all_goals (try go_wp2_with fail)
                    go_roundw
                    case rel => exact ⟨j + 1 + 1, by omega, by go_num, (hw_.drew).other hne _, (hn_.drew).put (by omega) _ (ST.out.symm), below_set (hbq.drew) hge _⟩
                    case measure => simp [intOf] <;> omega
                · have ho : fitO b x = false := by unfold fitO; rw [beq_eq_false_iff_ne.2 h63, beq_eq_false_iff_ne.2 hbx]; rfl
                  have tbx : ((b.toNat : Int) == (x.toNat : Int)) = false := by rw [beq_eq_false_iff_ne]; exact fun e => hbx (by rw [← UInt8.toNat_inj]; omega)
                  rw [ho] at st2
                  have ST := Lib.hid st2; clear st2 st0 st hc h42 h63 ho hx? hbx
                  cases c <;>
                  · go_wp2_with fail
                    have lj0 : (0 : Int) ≤ (j : Int) := by omega
                    have lj1 : (j : Int) < (s.size : Int) + 1 := by omega
                    have lj2 : (j : Int) < (s.size : Int) := by omega
                    have lj3 : (i : Int) < (p.size : Int) := by omega
                    have lj4 : (0 : Int) ≤ (i : Int) := by omega
                    have lj5 : (0 : Int) ≤ (j : Int) + 1 := by omega
                    have lj6 : (j : Int) + 1 < (s.size : Int) + 1 := by omega
                    have wj : IntKind.i64.wrap (j : Int) = (j : Int) := IntWalk.i64_in _ (by omega)
                    go_region
                    all_goals (try go_wp2_with fail)
                    go_roundw
                    case rel => exact ⟨j + 1 + 1, by omega, by go_num, (hw_.drew).other hne _, (hn_.drew).put (by omega) _ (ST.out.symm), below_set (hbq.drew) hge _⟩
                    case measure => simp [intOf] <;> omega
        · have hm2 : m = s.size + 1 := by omega
          subst hm2
          go_wp2_with fail
          go_roundw
          case rel => exact ⟨h, i + 1, by omega, rfl, by go_num, hge, hn_, hbq⟩
          case measure => simp [intOf] <;> omega
    · have hi2 : i = p.size := by omega
      subst hi2
      have cl := hrow.cell s.size (by omega)
      go_wp2_with fail
      go_ret
      exact ⟨rfl, hbr⟩
end Go.Proofs.YtkihgbggndikpaaGreatDoor
namespace Go.Proofs.YtkihgbggndikpaaGreatDoor
open Go Go.RowKit Go.Shelf Go.Proofs
attribute [local go_sem] Oper.semAt_some

def matM : Bs → Bool := fun p => p == [42, 42]
theorem matM_eq (p : Bs) : matM p = ((mkB p).toList == [42, 42]) := by rw [ByteArray.toList_eq, mkB_data]; rfl

theorem cell_other {W : World} {g j h k : Nat} {v : Value} (hne : g ≠ h) : (W.setCell ⟨h, k, none⟩ v).cell? ⟨g, j, none⟩ = W.cell? ⟨g, j, none⟩ := by
  simp only [World.cell?, heap_setCell_other W ⟨h, k, none⟩ g v hne]
theorem reffits_to (x y : ByteArray) (p q : Bs) (r : Bool) (hx : mkB p = x) (hy : mkB q = y) (hp : p.length ≤ 1000) (hq : q.length ≤ 1000) (hr : fitsB p q = r) (W : World) :
    Calls Tryz.prog 67 #[.string x, .string y] W fun e w' => e = .returned (.bool r) ∧ Below W.heap.size W w' := by
  subst hx hy hr
  have := reffits_any (mkB p) (mkB q) W (by rw [mkB_size]; omega) (by rw [mkB_size]; omega)
  rwa [mkB_data, mkB_data] at this

set_option maxHeartbeats 1000000 in
theorem refmatch_glob (g s : ByteArray) (w : World) (hg : g.size ≤ 1000000) (h1 : globB g.data.toList = false) :
    Calls Tryz.prog 37 #[.string g, .string s] w fun e w' => e = .returned (.bool (matchB g.data.toList s.data.toList)) ∧ Below w.heap.size w w' := by
  have hr : matchB g.data.toList s.data.toList = false := by unfold matchB; rw [h1]; rfl
  have HR := Lib.hid hr; clear hr
  have H1 := Lib.hid h1; clear h1
  go_enter Tryz.func37, Tryz.ntmps37
  go_wp2_with fail
  refine (refglob_any g _ (by omega)).mono ?_
  rintro e w1 ⟨rfl, hb1⟩
  rw [H1.out]
  go_wp2_with fail
  go_ret
  exact ⟨ret_bool HR.out.symm, hb1⟩
set_option maxHeartbeats 1000000 in
theorem refmatch_right (g s : ByteArray) (w : World) (hg : g.size ≤ 1000000) (hs : s.size ≤ 1000000) (h1 : globB g.data.toList = true) (h2 : rightB s.data.toList = false) :
    Calls Tryz.prog 37 #[.string g, .string s] w fun e w' => e = .returned (.bool (matchB g.data.toList s.data.toList)) ∧ Below w.heap.size w w' := by
  have hr : matchB g.data.toList s.data.toList = false := by unfold matchB; rw [h1, h2]; rfl
  have HR := Lib.hid hr; clear hr
  have H1 := Lib.hid h1; clear h1
  have H2 := Lib.hid h2; clear h2
  go_enter Tryz.func37, Tryz.ntmps37
  go_wp2_with fail
  refine (refglob_any g _ (by omega)).mono ?_
  rintro e w1 ⟨rfl, hb1⟩
  rw [H1.out]
  go_wp2_with fail
  refine (refright_any s _ (by omega)).mono ?_
  rintro e w2 ⟨rfl, hb2⟩
  rw [H2.out]
  have hb3 := hb1.trans (hb2.mono hb1.size)
  clear hb1 hb2
  go_wp2_with fail
  go_ret
  exact ⟨ret_bool HR.out.symm, hb3⟩

set_option maxRecDepth 100000 in
set_option maxHeartbeats 8000000 in
theorem refmatch_both (g s : ByteArray) (w : World) (hg : g.size ≤ 1000000) (hs : s.size ≤ 1000000) (h1 : globB g.data.toList = true) (h2 : rightB s.data.toList = true) :
    Calls Tryz.prog 37 #[.string g, .string s] w fun e w' => e = .returned (.bool (matchB g.data.toList s.data.toList)) ∧ Below w.heap.size w w' := by
  obtain ⟨i0, hi, hz0, hz1, hz2⟩ := info_parts bool_info
  have lg := partsB_len h1
  have ls := partsB_len h2
  have eg : g.data.toList.length = g.size := by rw [Array.length_toList]; rfl
  have es : s.data.toList.length = s.size := by rw [Array.length_toList]; rfl
  have np := splitL_length 47 g.data.toList
  have nl := splitL_length 47 s.data.toList
  have op : ∀ x ∈ splitL 47 g.data.toList, x.length ≤ 100 := fun x hx => Nat.le_trans (piece_len 47 g x hx) lg
  have ol : ∀ x ∈ splitL 47 s.data.toList, x.length ≤ 100 := fun x hx => Nat.le_trans (piece_len 47 s x hx) ls
  have nep : (splitL 47 g.data.toList).length ≠ 0 := fun e => splitL_ne 47 g.data.toList (List.eq_nil_of_length_eq_zero e)
  have nel : (splitL 47 s.data.toList).length ≠ 0 := fun e => splitL_ne 47 s.data.toList (List.eq_nil_of_length_eq_zero e)
  obtain ⟨P, hP⟩ : ∃ P, splitL 47 g.data.toList = P := ⟨_, rfl⟩
  obtain ⟨L, hL⟩ : ∃ L, splitL 47 s.data.toList = L := ⟨_, rfl⟩
  have hr : matchB g.data.toList s.data.toList = partedB matM fitsB P L := by unfold matchB; rw [h1, h2, hP, hL]; rfl
  rw [hr]
  rw [hP] at np op nep
  rw [hL] at nl ol nel
  obtain ⟨n, hn⟩ : ∃ n, P.length = n := ⟨_, rfl⟩
  obtain ⟨m, hm⟩ : ∃ m, L.length = m := ⟨_, rfl⟩
  obtain ⟨F, hF⟩ : ∃ F, frontsB matM fitsB P L = F := ⟨_, rfl⟩
  have f0 : ∀ k, k ≤ m → F 0 k = decide (k = 0) := fun k hk => by rw [← hF]; exact fronts_none _ _ _ _ k (by omega)
  have fall : F n m = partedB matM fitsB P L := by rw [← hF, ← hn, ← hm]; exact fronts_all _ _ _ _
  have hstep : ∀ i b, P[i]? = some b → (matM b = true → F (i + 1) 0 = F i 0 ∧ ∀ k, k < m → F (i + 1) (k + 1) = (F i (k + 1) || F (i + 1) k)) ∧
      (matM b = false → F (i + 1) 0 = false ∧ ∀ k x, L[k]? = some x → F (i + 1) (k + 1) = (F i k && fitsB b x)) := fun i b hb => by
    rw [← hF]
    exact ⟨fun h => ⟨fronts_many_zero _ _ _ _ i b hb h, fun k hk => fronts_many _ _ _ _ i k b hb h (by omega)⟩, fun h => ⟨fronts_one_zero _ _ _ _ i b hb h, fun k x hx => fronts_one _ _ _ _ i k b x hb h hx⟩⟩
  rw [← fall]
  have gP : ∀ i, i < n → ∃ b, P[i]? = some b ∧ b.length ≤ 100 := fun i h => ⟨P[i]'(by omega), List.getElem?_eq_getElem (by omega), op _ (List.getElem_mem _)⟩
  have gL : ∀ i, i < m → ∃ b, L[i]? = some b ∧ b.length ≤ 100 := fun i h => ⟨L[i]'(by omega), List.getElem?_eq_getElem (by omega), ol _ (List.getElem_mem _)⟩
  have n1 : n ≤ 101 := by omega
  have m1 : m ≤ 101 := by omega
  have n0 : n ≠ 0 := by omega
  have m0 : m ≠ 0 := by omega
  have F0 := Lib.hid f0; clear f0
  have HSTEP := Lib.hid hstep; clear hstep
  have GP := Lib.hid gP; clear gP
  have GL := Lib.hid gL; clear gL
  have H1 := Lib.hid h1; clear h1
  have H2 := Lib.hid h2; clear h2
  have HP := Lib.hid hP; clear hP
  have HL := Lib.hid hL; clear hL
  have HN := Lib.hid hn; clear hn
  have HM := Lib.hid hm; clear hm
  clear hF fall hr op ol np nl eg es nep nel lg ls
  go_enter Tryz.func37, Tryz.ntmps37
  go_wp2_with fail
  refine (refglob_any g _ (by omega)).mono ?_
  rintro e w1 ⟨rfl, hb1⟩
  rw [H1.out]
  go_wp2_with fail
  refine (refright_any s _ (by omega)).mono ?_
  rintro e w2 ⟨rfl, hb2⟩
  rw [H2.out]
  have hb3 := hb1.trans (hb2.mono hb1.size)
  clear hb1 hb2
  go_wp2_with fail
  refine (refsplit_any g 47 _ (by omega)).mono ?_
  rintro e w3 ⟨v, rfl, hrow, hb4⟩
  rw [HP.out, HN.out] at hrow
  obtain ⟨gp, cp, rfl, rp, _, kp⟩ := names_row hrow n0
  have cp1 : n ≤ cp ∧ cp ≤ 9223372036854775807 := by obtain ⟨_, _, h, h1, h2⟩ := ownsRow_slice hrow; cases h; exact ⟨h1, h2⟩
  have hb5 := hb3.trans (hb4.mono hb3.size)
  clear hb3 hb4 hrow
  go_wp2_with fail
  refine (refsplit_any s 47 _ (by omega)).mono ?_
  rintro e w4 ⟨v, rfl, hrow, hb6⟩
  rw [HL.out, HM.out] at hrow
  obtain ⟨gl, cl, rfl, rl, _, kl⟩ := names_row hrow m0
  have cl1 : m ≤ cl ∧ cl ≤ 9223372036854775807 := by obtain ⟨_, _, h, h1, h2⟩ := ownsRow_slice hrow; cases h; exact ⟨h1, h2⟩
  have hb7 := hb5.trans (hb6.mono hb5.size)
  have kp4 : gp < w4.heap.size := Nat.lt_of_lt_of_le kp hb6.size
  have rp4 := rp.below hb6 kp
  have RP := Lib.hid rp4; clear rp4 rp kp
  have RL := Lib.hid rl; clear rl
  clear hb5 hb6 hrow
  go_wp2_with (refine wpList_make_full _ rfl _ _ 98 rfl w4.heap.size 4 i0 (.bool false) 1 Tryz.underlying98 hi hz0 hz1 .i64 .i64 _ _ (m + 1) rfl rfl (by go_num) (by go_num) (by rw [hz2]; omega) (by unfold maxLen; omega) (Nat.le_refl _) ?_; intro w5 hown hgrow; obtain ⟨hrow, hge⟩ := rowB_made hown; have hcell := hrow.cell 0 (by omega); have hfr := hrow.frozen 0)
  have hfirst := (hrow.first (f := F 0) (by omega) (by rw [F0.out 0 (by omega)]; rfl) (fun j h1 h2 => by rw [F0.out j (by omega)]; exact decide_eq_false (by omega)))
  have hb1 : Below w4.heap.size w4 (w5.setCell ⟨w4.heap.size, 0, none⟩ (.bool true)) := below_set ((Below.refl _ w4).grown hgrow (Nat.le_refl _) (fun j ej => by cases ej)) (Nat.le_refl _) _
  clear hown hgrow hrow hge hcell hfr
  go_loopw [7, 8] (fun v i wr => ∃ (g k : Nat), k ≤ n ∧ v = .slice (some ⟨g, 0, none⟩) (m + 1) (m + 1) ∧ i = .int .i64 k ∧ w4.heap.size ≤ g ∧ RowB wr g (m + 1) (F k) (m + 1) ∧ Below w4.heap.size w4 wr) (fun _ i _ => n - (intOf i).toNat)
  case atStart => exact ⟨w4.heap.size, 0, Nat.zero_le _, rfl, rfl, Nat.le_refl _, hfirst, hb1⟩
  case round =>
    obtain ⟨g, i, hik, rfl, rfl, hg, hrow, hbr⟩ := hrel
    have hW : w4.heap.size ≤ wr.heap.size := hbr.size
    by_cases hlt : i < n
    · obtain ⟨b, hb?, bl⟩ := GP.out i hlt
      obtain ⟨hmany, hone⟩ := HSTEP.out i b hb?
      have cpi := RP.out i b hb?
      have heq := matM_eq b
      obtain ⟨x, hx⟩ : ∃ x, mkB b = x := ⟨_, rfl⟩
      rw [hx] at cpi heq
      have HX := Lib.hid hx; clear hx
      have HB? := Lib.hid hb?; clear hb?
      have HMA := Lib.hid hmany; clear hmany
      have HO := Lib.hid hone; clear hone
      have HEQ := Lib.hid heq; clear heq
      have CPI := Lib.hid cpi; clear cpi
      go_wp2_with (refine wpList_make_full _ rfl _ _ 98 rfl w4.heap.size 4 i0 (.bool false) 1 Tryz.underlying98 hi hz0 hz1 .i64 .i64 _ _ (m + 1) rfl rfl (by go_num) (by go_num) (by rw [hz2]; omega) (by unfold maxLen; omega) hW ?_; intro w6 hown hgrow)
      obtain ⟨hnow0, hge⟩ := rowB_made hown
      have hwas := hrow.kept hgrow
      have hne : g ≠ wr.heap.size := by have := hrow.lt; omega
      have hnow := hnow0.again (f' := F (i + 1)) (Nat.zero_le _) (fun j h => by omega)
      have hb2 : Below w4.heap.size w4 w6 := hbr.grown hgrow hW (fun j ej => by cases ej)
      obtain ⟨h, hh⟩ : ∃ h, wr.heap.size = h := ⟨_, rfl⟩
      rw [hh] at hnow hne hge ⊢
      clear hown hgrow hnow0 hrow hbr hh
      go_loopw [10] (fun k wq => ∃ (q : Nat), q ≤ m + 1 ∧ k = .int .i64 q ∧ RowB wq g (m + 1) (F i) (m + 1) ∧ RowB wq h (m + 1) (F (i + 1)) q ∧ Below w4.heap.size w4 wq) (fun k _ => m + 1 - (intOf k).toNat)
      case atStart => exact ⟨0, Nat.zero_le _, rfl, hwas, hnow, hb2⟩
      case round =>
        obtain ⟨q, hq, rfl, hw_, hn_, hbq⟩ := hrel
        have cpi : wr.cell? ⟨gp, i, none⟩ = some (.string x) := (hbq.cell (p := ⟨gp, i, none⟩) kp4).trans CPI.out
        by_cases hml : q ≤ m
        · have cw := hw_.cell q (by omega)
          obtain ⟨old, co⟩ := hn_.some q (by omega)
          have fr := hn_.frozen q
          cases h42 : matM b with
          | true =>
            obtain ⟨st0, st⟩ := HMA.out h42
            have hv : (x.toList == [42, 42]) = true := by rw [← HEQ.out]; exact h42
            cases q with
            | zero =>
              obtain ⟨c, hc⟩ : ∃ c, F i 0 = c := ⟨_, rfl⟩
              rw [hc] at cw st0
              have ST := Lib.hid st0; clear st0 st hc h42
              cases c <;>
              · go_wp2_with fail
                go_roundw
                case rel => exact ⟨0 + 1, by omega, by go_num, (hw_).other hne _, (hn_).put (by omega) _ (ST.out.symm), below_set (hbq) hge _⟩
                case measure => simp [intOf] <;> omega
            | succ j =>
              have cn := hn_.cell j (by omega)
              have st2 := st j (by omega)
              obtain ⟨c, hc⟩ : ∃ c, F i (j + 1) = c := ⟨_, rfl⟩
              obtain ⟨d, hd⟩ : ∃ d, F (i + 1) j = d := ⟨_, rfl⟩
              rw [hc] at cw st2
              rw [hd] at cn st2
              have ST := Lib.hid st2; clear st2 st0 st hc hd h42
              cases c <;> cases d <;>
              · go_wp2_with fail
                go_roundw
                case rel => exact ⟨j + 1 + 1, by omega, by go_num, (hw_).other hne _, (hn_).put (by omega) _ (ST.out.symm), below_set (hbq) hge _⟩
                case measure => simp [intOf] <;> omega
          | false =>
            obtain ⟨st0, st⟩ := HO.out h42
            have hv : (x.toList == [42, 42]) = false := by rw [← HEQ.out]; exact h42
            cases q with
            | zero =>
              have ST := Lib.hid st0; clear st0 st h42
              go_wp2_with fail
              go_region
              all_goals (try go_wp2_with fail)
              go_roundw
              case rel => exact ⟨0 + 1, by omega, by go_num, (hw_.drew).other hne _, (hn_.drew).put (by omega) _ (ST.out.symm), below_set (hbq.drew) hge _⟩
              case measure => simp [intOf] <;> omega
            | succ j =>
              have cwj := hw_.cell j (by omega)
              obtain ⟨y', hy', yl⟩ := GL.out j (by omega)
              have st2 := st j y' hy'
              have clj : wr.cell? ⟨gl, j, none⟩ = some (.string (mkB y')) := (hbq.cell (p := ⟨gl, j, none⟩) kl).trans (RL.out j y' hy')
              obtain ⟨r, hr⟩ : ∃ r, fitsB b y' = r := ⟨_, rfl⟩
              rw [hr] at st2
              obtain ⟨y, hy⟩ : ∃ y, mkB y' = y := ⟨_, rfl⟩
              rw [hy] at clj
              have hfit := reffits_to x y b y' r HX.out hy (by omega) (by omega) hr
              obtain ⟨c, hc⟩ : ∃ c, F i j = c := ⟨_, rfl⟩
              rw [hc] at cwj st2
              have ST := Lib.hid st2; clear st2 st0 st hc h42
              have HFIT := Lib.hid hfit; clear hfit hr hy hy'
              cases c with
              | false =>
                go_wp2_with fail
                have lj0 : (0 : Int) ≤ (j : Int) := by omega
                have lj1 : (j : Int) < (m : Int) + 1 := by omega
                have lj2 : (j : Int) < (m : Int) := by omega
                have lj3 : (i : Int) < (n : Int) := by omega
                have lj4 : (0 : Int) ≤ (i : Int) := by omega
                have lj5 : (0 : Int) ≤ (j : Int) + 1 := by omega
                have lj6 : (j : Int) + 1 < (m : Int) + 1 := by omega
                have wj : IntKind.i64.wrap (j : Int) = (j : Int) := IntWalk.i64_in _ (by omega)
                go_region
                all_goals (try go_wp2_with fail)
                go_roundw
                case rel => exact ⟨j + 1 + 1, by omega, by go_num, (hw_.drew).other hne _, (hn_.drew).put (by omega) _ (ST.out.symm), below_set (hbq.drew) hge _⟩
                case measure => simp [intOf] <;> omega
              | true =>
                go_wp2_with fail
                have lj0 : (0 : Int) ≤ (j : Int) := by omega
                have lj1 : (j : Int) < (m : Int) + 1 := by omega
                have lj2 : (j : Int) < (m : Int) := by omega
                have lj3 : (i : Int) < (n : Int) := by omega
                have lj4 : (0 : Int) ≤ (i : Int) := by omega
                have lj5 : (0 : Int) ≤ (j : Int) + 1 := by omega
                have lj6 : (j : Int) + 1 < (m : Int) + 1 := by omega
                have wj : IntKind.i64.wrap (j : Int) = (j : Int) := IntWalk.i64_in _ (by omega)
                have lg1 : g < wr.heap.size := hw_.lt
                have lp1 : gp < wr.heap.size := Nat.lt_of_lt_of_le kp4 hbq.size
                have ll1 : gl < wr.heap.size := Nat.lt_of_lt_of_le kl hbq.size
                have lh1 : h < wr.heap.size := hn_.lt
                have np : gp ≠ h := by omega
                have nl : gl ≠ h := by omega
                go_region_held3 (fun w' => w'.cell? ⟨g, j, none⟩ = some (.bool true) ∧ w'.cell? ⟨gp, i, none⟩ = some (.string x) ∧ w'.cell? ⟨gl, j, none⟩ = some (.string y)) (first | exact ⟨cwj, cpi, clj⟩ | exact ⟨c1, c2, c3⟩ | exact ⟨(cell_other hne).trans c1, (cell_other np).trans c2, (cell_other nl).trans c3⟩) ((go_at_call 67; refine (HFIT.out _).mono ?_; rintro e w9 ⟨rfl, hb9'⟩; have hb9 := (Below.refl _ wr).drew.trans hb9'; have c1 := (hb9.cell (p := ⟨g, j, none⟩) lg1).trans cwj; have c2 := (hb9.cell (p := ⟨gp, i, none⟩) lp1).trans cpi; have c3 := (hb9.cell (p := ⟨gl, j, none⟩) ll1).trans clj; have c4 := (hb9.cell (p := ⟨h, j + 1, none⟩) lh1).trans co; have f4 := (hb9.frozen (p := ⟨h, j + 1, none⟩) lh1).trans fr))
                all_goals (try go_wp2_with fail)
                go_roundw
                case rel => exact ⟨j + 1 + 1, by omega, by go_num, (hw_.below hb9 lg1).other hne _, (hn_.below hb9 lh1).put (by omega) _ (ST.out.symm), below_set (hbq.trans (hb9.mono hbq.size)) hge _⟩
                case measure => simp [intOf] <;> omega
        · have hm2 : q = m + 1 := by omega
          subst hm2
          go_wp2_with fail
          go_roundw
          case rel => exact ⟨h, i + 1, by omega, rfl, by go_num, hge, hn_, hbq⟩
          case measure => simp [intOf] <;> omega
    · have hi2 : i = n := by omega
      subst hi2
      have cl := hrow.cell m (by omega)
      go_wp2_with fail
      go_ret
      exact ⟨rfl, hb7.trans (hbr.mono hb7.size)⟩

theorem refmatch_any (g s : ByteArray) (w : World) (hg : g.size ≤ 1000000) (hs : s.size ≤ 1000000) :
    Calls Tryz.prog 37 #[.string g, .string s] w fun e w' => e = .returned (.bool (matchB g.data.toList s.data.toList)) ∧ Below w.heap.size w w' := by
  cases h1 : globB g.data.toList with
  | false => exact refmatch_glob g s w hg h1
  | true =>
    cases h2 : rightB s.data.toList with
    | false => exact refmatch_right g s w hg hs h1 h2
    | true => exact refmatch_both g s w hg hs h1 h2
end Go.Proofs.YtkihgbggndikpaaGreatDoor
namespace Go.Proofs.YtkihgbggndikpaaGreatDoor
open Go Go.RowKit Go.Shelf Go.Proofs
attribute [local go_sem] Oper.semAt_some

/-- One file more in a row of the call's own. -/
theorem wpList_append_file {ops : Array Oper} {rest : List Oper} {o : Oper} {a : Act} {w : World} {Q : Exit → Act → World → Prop} (hgd : o.guard = none) (s x : Operand)
    (ho : o.op = .call { callee := .builtin .append, args := #[s, x], argTypes := #[37, 37] })
    (base : Nat) (v : Value) (l : List FX) (f : FX) (g c : Nat) (hs : a.eval s = v) (hown : FilesOwn base w v l) (hx : a.eval x = .slice (some ⟨g, 0, none⟩) 1 c) (hb : BoxF w g f) (hl : l.length ≤ 100000) (hbase : base ≤ w.heap.size)
    (h : ∀ v' w', FilesOwn base w' v' (l ++ [f]) → w.grownBy w' v.ownBlock → wpList Tryz.prog ops Q rest (a.put o.dst v') w') : wpList Tryz.prog ops Q (o :: rest) a w := by
  obtain ⟨i0, hi, hz0, hz1, hz2⟩ := info_parts file_info
  refine wpList_append_own w hgd s x 37 ho base 52 i0 (.agg #[.string ⟨#[]⟩, .slice none 0 0]) 2 40 Tryz.underlying37 hi hz0 hz1 hz2 rfl (by decide) v l.length (fcells l) hs hown ⟨g, 0, none⟩ 1 c f.cs hx rfl ?_ ?_ (by unfold maxLen; omega) (by omega) hbase fun v' w' h1 h2 _ => h v' w' ?_ h2
  · intro j u hu
    rw [Go.WideShapes.add_plain, Nat.zero_add]
    match j, hu with
    | 0, hu => obtain rfl : Value.string f.p = u := by simpa [FX.cs] using hu
               exact hb.c0
    | 1, hu => obtain rfl : Value.slice f.A f.b.length f.c = u := by simpa [FX.cs] using hu
               exact hb.c1
    | j + 2, hu => simp [FX.cs] at hu
  · intro u hu
    simp only [FX.cs, List.mem_cons, List.mem_nil_iff, or_false] at hu
    rcases hu with rfl | rfl <;> rfl
  · show World.ownsRow _ _ _ _ _ _ _
    rw [List.length_append, fcells_append]; exact h1
/-- What a call of the document's answers, other files' bytes shared: a row of its own. -/
def RefPost (w : World) (l : List FX) (e : Ending) (w' : World) : Prop := ∃ v', e = .returned v' ∧ FilesOwn w.heap.size w' v' l ∧ Below w.heap.size w w'

set_option maxHeartbeats 2000000 in
theorem reffind_any (l : List FX) (A : Option Addr) (c : Nat) (s : ByteArray) (w : World) (h : TreeAt w A c l) (hl : l.length ≤ 100000) :
    Calls Tryz.prog 65 #[.slice A l.length c, .string s] w fun e w' => e = .returned (.int .i64 (placeX l s)) ∧ Below w.heap.size w w' := by
  have HT := Lib.hid h; clear h
  go_enter Tryz.func65, Tryz.ntmps65
  go_wp2_with fail
  go_loopw [5] (fun i wr => ∃ (k : Nat), k ≤ l.length ∧ i = .int .i64 k ∧ (∀ j y, j < k → l[j]? = some y → (y.p.toList == s.toList) = false) ∧ Below w.heap.size w wr) (fun i _ => l.length - (intOf i).toNat)
  case atStart => exact ⟨0, Nat.zero_le _, rfl, fun _ _ h => absurd h (Nat.not_lt_zero _), Below.refl _ _⟩
  case round =>
    obtain ⟨k, hk, rfl, hno, hbr⟩ := hrel
    by_cases h1 : k < l.length
    · obtain ⟨x, hx⟩ : ∃ x, l[k]? = some x := ⟨_, List.getElem?_eq_getElem h1⟩
      obtain ⟨b, o, hA, hr⟩ := HT.out.row (by omega)
      subst hA
      obtain ⟨c1, _⟩ := (hr.keep fun hb => hbr.block _ hb) k x hx
      have k1 : (k : Int) < (l.length : Int) := by omega
      have HX := Lib.hid hx; clear hx
      have HNO := Lib.hid hno; clear hno
      clear hr
      cases hq : (x.p.toList == s.toList) with
      | true =>
        have hp : placeX l s = (k : Int) := idxF_hit HX.out hq HNO.out
        have HP := Lib.hid hp; clear hp
        go_wp2_with fail
        go_ret
        exact ⟨by rw [HP.out]; rfl, hbr⟩
      | false =>
        go_wp2_with fail
        go_roundw
        case rel => exact ⟨k + 1, by omega, by go_num, fun j y hj hy => by
          rcases Nat.lt_or_eq_of_le (Nat.lt_succ_iff.1 hj) with hj | rfl
          · exact HNO.out j y hj hy
          · have := HX.out; rw [hy] at this; cases this; exact hq, hbr⟩
        case measure => simp [intOf]; omega
    · obtain rfl : k = l.length := by omega
      have hp : placeX l s = -1 := idxF_miss fun y hy => by obtain ⟨j, hj, rfl⟩ := List.mem_iff_getElem.1 hy; exact hno j _ hj (List.getElem?_eq_getElem hj)
      have HP := Lib.hid hp; clear hp
      clear hno
      go_wp2_with fail
      go_ret
      exact ⟨by rw [HP.out]; rfl, hbr⟩

theorem keepX_step {l : List FX} {k : Nat} {x : FX} (s : ByteArray) (hx : l[k]? = some x) : keepX (l.take (k + 1)) s = keepX (l.take k) s ++ (if (x.p.toList == s.toList) = true then [] else [x]) := by
  unfold keepX
  rw [List.take_add_one, hx, List.filter_append]
  congr 1
  show [x].filter _ = _
  rw [List.filter_cons]
  cases x.p.toList == s.toList <;> rfl

set_option maxRecDepth 100000 in
set_option maxHeartbeats 4000000 in
theorem refdrop_any (l : List FX) (A : Option Addr) (c : Nat) (s : ByteArray) (w : World) (h : TreeAt w A c l) (hl : l.length ≤ 100000) :
    Calls Tryz.prog 29 #[.slice A l.length c, .string s] w (RefPost w (keepX l s)) := by
  have HT := Lib.hid h; clear h
  go_enter Tryz.func29, Tryz.ntmps29
  go_wp2_with fail
  go_loopw [5, 6] (fun v i wr => ∃ (k : Nat), k ≤ l.length ∧ i = .int .i64 k ∧ FilesOwn w.heap.size wr v (keepX (l.take k) s) ∧ Below w.heap.size w wr) (fun _ i _ => l.length - (intOf i).toNat)
  case atStart => exact ⟨0, Nat.zero_le _, rfl, World.ownsRow_nil _ _ _ _, Below.refl _ _⟩
  case round =>
    obtain ⟨k, hk, rfl, hrow, hbr⟩ := hrel
    obtain ⟨Av, cv, rfl⟩ := hrow.slice
    have hW := hbr.size
    by_cases h1 : k < l.length
    · obtain ⟨x, hx⟩ : ∃ x, l[k]? = some x := ⟨_, List.getElem?_eq_getElem h1⟩
      obtain ⟨b, o, hA, hr⟩ := HT.out.row (by omega)
      subst hA
      obtain ⟨c1, c2⟩ := (hr.keep fun hb => hbr.block _ hb) k x hx
      have k1 : (k : Int) < (l.length : Int) := by omega
      have hlen : (keepX (l.take k) s).length ≤ 100000 := Nat.le_trans (List.length_filter_le _ _) (by rw [List.length_take]; omega)
      have hsn := keepX_step s hx
      have HSN := Lib.hid hsn; clear hsn
      have HX := Lib.hid hx; clear hx
      have HR := Lib.hid hrow; clear hrow
      clear hr
      cases hq : (x.p.toList == s.toList) with
      | true =>
        have hn : keepX (l.take (k + 1)) s = keepX (l.take k) s := by rw [HSN.out, if_pos hq, List.append_nil]
        have HN := Lib.hid hn; clear hn
        go_wp2_with fail
        go_roundw
        case rel => exact ⟨k + 1, by omega, by go_num, by rw [HN.out]; exact HR.out, hbr⟩
        case measure => simp [intOf]; omega
      | false =>
        have hn : keepX (l.take (k + 1)) s = keepX (l.take k) s ++ [x] := by rw [HSN.out, if_neg (by rw [hq]; decide)]
        have HN := Lib.hid hn; clear hn
        go_wp2_with (at_builtin; refine wpList_append_file rfl _ _ rfl w.heap.size _ (keepX (l.take k) s) x wr.heap.size 1 rfl (HR.out.below (below_box _ _)) rfl (BoxF.new _ _ _) hlen (Nat.le_trans hW (below_box _ _).size) ?_; intro v' w' hown' hgrow; obtain ⟨A', c', rfl⟩ := hown'.slice; rw [List.length_append, List.length_singleton] at hown')
        go_roundw
        case rel => exact ⟨k + 1, by omega, by go_num, by rw [HN.out]; exact hown', (hbr.trans ((Below.refl _ _).alloc hW _)).grown hgrow (Nat.le_trans hW (below_box _ _).size) fun j ej => (HR.out.row ej).1⟩
        case measure => simp [intOf]; omega
    · obtain rfl : k = l.length := by omega
      rw [List.take_length] at *
      go_wp2_with fail
      go_ret
      exact ⟨_, rfl, hrow, hbr⟩

/-- What Put has laid behind k files of the list without the path. -/
def putTo (L : List FX) (f : FX) (k : Nat) : List FX := if k ≤ aboveX L f.p then L.take k else L.take (aboveX L f.p) ++ f :: (L.drop (aboveX L f.p)).take (k - aboveX L f.p)
theorem aboveX_front {L : List FX} {s : ByteArray} {j : Nat} {y : FX} (hj : j < aboveX L s) (hy : L[j]? = some y) : ltB s.data.toList y.p.data.toList = false := by
  unfold aboveX at hj
  have h1 := (List.takeWhile_prefix (l := L) fun x => !ltB s.data.toList x.p.data.toList).getElem hj
  have h3 := List.all_eq_true.1 (List.all_takeWhile (l := L) (p := fun x => !ltB s.data.toList x.p.data.toList)) _ (List.getElem_mem hj)
  rw [h1] at h3
  obtain ⟨_, e⟩ := List.getElem?_eq_some_iff.1 hy
  rw [e] at h3
  simpa using h3
theorem aboveX_at {L : List FX} {s : ByteArray} {y : FX} (hy : L[aboveX L s]? = some y) : ltB s.data.toList y.p.data.toList = true := by
  have h := dropWhile_head (fun x : FX => !ltB s.data.toList x.p.data.toList) L
  have e : L.drop (aboveX L s) = L.dropWhile (fun x : FX => !ltB s.data.toList x.p.data.toList) := by
    unfold aboveX
    conv => lhs; arg 2; rw [← List.takeWhile_append_dropWhile (p := fun x : FX => !ltB s.data.toList x.p.data.toList) (l := L)]
    rw [List.drop_left]
  have h2 : L.dropWhile (fun x : FX => !ltB s.data.toList x.p.data.toList) = y :: L.drop (aboveX L s + 1) := by
    rw [← e]
    obtain ⟨hl, rfl⟩ := List.getElem?_eq_some_iff.1 hy
    exact List.drop_eq_getElem_cons hl
  have := h _ _ h2
  simpa using this
theorem put_zero (L : List FX) (f : FX) : putTo L f 0 = [] := by unfold putTo; rw [if_pos (Nat.zero_le _)]; rfl
theorem put_under {L : List FX} {f x : FX} {k : Nat} (hx : L[k]? = some x) (hk : k ≤ aboveX L f.p) (hu : ltB f.p.data.toList x.p.data.toList = false) : k < aboveX L f.p ∧ putTo L f (k + 1) = putTo L f k ++ [x] := by
  have h1 : k < aboveX L f.p := by
    rcases Nat.lt_or_eq_of_le hk with h | h
    · exact h
    · rw [h] at hx
      rw [aboveX_at hx] at hu; cases hu
  refine ⟨h1, ?_⟩
  unfold putTo
  rw [if_pos hk, if_pos (show k + 1 ≤ _ from h1), List.take_add_one, hx]; rfl
theorem put_above {L : List FX} {f x : FX} {k : Nat} (hx : L[k]? = some x) (hk : k ≤ aboveX L f.p) (hu : ltB f.p.data.toList x.p.data.toList = true) : k = aboveX L f.p ∧ putTo L f (k + 1) = (putTo L f k ++ [f]) ++ [x] := by
  have h1 : k = aboveX L f.p := by
    rcases Nat.lt_or_eq_of_le hk with h | h
    · rw [aboveX_front h hx] at hu; cases hu
    · exact h
  refine ⟨h1, ?_⟩
  unfold putTo
  rw [if_pos hk, if_neg (by omega), ← h1, show k + 1 - k = 1 from by omega]
  obtain ⟨hl, rfl⟩ := List.getElem?_eq_some_iff.1 hx
  rw [List.drop_eq_getElem_cons hl]
  simp only [List.take_succ_cons, List.take_zero, List.append_assoc, List.cons_append, List.nil_append]
theorem put_laid {L : List FX} {f x : FX} {k : Nat} (hx : L[k]? = some x) (hk : aboveX L f.p < k) : putTo L f (k + 1) = putTo L f k ++ [x] := by
  unfold putTo
  rw [if_neg (by omega), if_neg (by omega), show k + 1 - aboveX L f.p = (k - aboveX L f.p) + 1 from by omega, List.take_add_one, List.getElem?_drop, show aboveX L f.p + (k - aboveX L f.p) = k from by omega, hx]
  simp
theorem put_last {L : List FX} {f : FX} (hk : L.length ≤ aboveX L f.p) : putTo L f L.length ++ [f] = insX L (aboveX L f.p) f := by
  have h1 := aboveX_le L f.p
  have h2 : aboveX L f.p = L.length := by omega
  unfold putTo insX
  rw [if_pos hk, h2, List.take_length, List.drop_length]
theorem put_done {L : List FX} {f : FX} (hk : aboveX L f.p < L.length) : putTo L f L.length = insX L (aboveX L f.p) f := by
  unfold putTo insX
  rw [if_neg (by omega), List.take_of_length_le (l := L.drop (aboveX L f.p)) (by rw [List.length_drop]; omega)]
theorem putTo_le (L : List FX) (f : FX) (k : Nat) : (putTo L f k).length ≤ L.length + 1 := by
  unfold putTo
  split
  · rw [List.length_take]; omega
  · rw [List.length_append, List.length_cons, List.length_take, List.length_take, List.length_drop]; omega
theorem putTo_sub {L : List FX} {f : FX} {k : Nat} : ∀ x ∈ putTo L f k, x = f ∨ x ∈ L := fun x hx => by
  unfold putTo at hx
  split at hx
  · exact .inr (List.mem_of_mem_take hx)
  · rcases List.mem_append.1 hx with h | h
    · exact .inr (List.mem_of_mem_take h)
    · rcases List.mem_cons.1 h with h | h
      · exact .inl h
      · exact .inr (List.mem_of_mem_drop (List.mem_of_mem_take h))
theorem keepX_ne {l : List FX} {s : ByteArray} {x : FX} (h : x ∈ keepX l s) : (x.p.toList == s.toList) = false := by
  have := (List.mem_filter.1 h).2
  simpa using this

set_option maxRecDepth 100000 in
set_option maxHeartbeats 8000000 in
theorem refput_any (l : List FX) (A : Option Addr) (c : Nat) (f : FX) (w : World) (h : TreeAt w A c l) (hl : l.length ≤ 90000) :
    Calls Tryz.prog 28 #[.slice A l.length c, .agg #[.string f.p, .slice f.A f.b.length f.c]] w (RefPost w (putX l f)) := by
  obtain ⟨W, hW⟩ : ∃ W, w.alloc (.cells #[.string f.p, .slice f.A f.b.length f.c] 52) = W := ⟨_, rfl⟩
  have hb0 : Below w.heap.size w W := by rw [← hW]; exact below_box _ _
  have xf0 : BoxF W w.heap.size f := by rw [← hW]; exact BoxF.new w f _
  have HD := refdrop_any l A c f.p W (h.below hb0) (by omega)
  have kf0 := xf0.c0
  go_enter Tryz.func28, Tryz.ntmps28
  go_wp2_with fail
  clear hW
  refine HD.mono ?_
  rintro e w1 ⟨v1, rfl, h1, hq1⟩
  obtain ⟨A1, c1, rfl⟩ := h1.slice
  have hT1 := (h1.tree fun x hx => ((h.below hb0).files x (keepX_sub x hx)).below hq1).2
  have hb1 := hb0.trans (hq1.mono hb0.size)
  have xf1 := xf0.below hq1
  obtain ⟨L, hL⟩ : ∃ L, keepX l f.p = L := ⟨_, rfl⟩
  have hne : ∀ x ∈ L, (x.p.toList == f.p.toList) = false := fun x hx => keepX_ne (by rw [hL]; exact hx)
  have hput : putX l f = insX L (aboveX L f.p) f := by unfold putX; rw [hL]
  have hLl : L.length ≤ 90000 := by rw [← hL]; exact Nat.le_trans (List.length_filter_le _ _) hl
  rw [hL] at hT1 ⊢
  have HPUT := Lib.hid hput
  have HNE := Lib.hid hne; clear hne
  have HT := Lib.hid hT1; clear hT1
  have HB1 := Lib.hid hb1; clear hb1
  have XF := Lib.hid xf1; clear xf1
  clear HD h1 hq1 kf0 xf0 h hb0 hput hL hl
  go_wp2_with fail
  go_loopw [6, 7, 8] (fun v b i wr => ∃ (k : Nat), k ≤ L.length ∧ i = .int .i64 k ∧ b = .bool (decide (aboveX L f.p < k)) ∧ FilesOwn w1.heap.size wr v (putTo L f k) ∧ Below w1.heap.size w1 wr) (fun _ _ i _ => L.length - (intOf i).toNat)
  case atStart => exact ⟨0, Nat.zero_le _, rfl, by rw [decide_eq_false (Nat.not_lt_zero _)], by rw [put_zero]; exact World.ownsRow_nil _ _ _ _, Below.refl _ _⟩
  case round =>
    obtain ⟨k, hk, rfl, rfl, hrow, hbr⟩ := hrel
    obtain ⟨Av, cv, rfl⟩ := hrow.slice
    have hW := hbr.size
    have hlen := putTo_le L f k
    have xf := XF.out.below hbr
    have kf0 := xf.c0
    have kf1 := xf.c1
    by_cases h1 : k < L.length
    · obtain ⟨x, hx⟩ : ∃ x, L[k]? = some x := ⟨_, List.getElem?_eq_getElem h1⟩
      obtain ⟨b, o, hA, hr⟩ := (HT.out.below hbr).row (by omega)
      subst hA
      obtain ⟨c1, c2⟩ := hr k x hx
      have k1 : (k : Int) < (L.length : Int) := by omega
      have wk : IntKind.i64.wrap (k : Int) = (k : Int) := IntWalk.i64_in _ (by omega)
      have hq2 := HNE.out x (List.mem_of_getElem? hx)
      have HX := Lib.hid hx; clear hx
      have HR := Lib.hid hrow; clear hrow
      have XR := Lib.hid xf; clear xf
      have HRd : FilesOwn w1.heap.size wr.drew (.slice Av (putTo L f k).length cv) (putTo L f k) := HR.out.below (below_drew1 wr)
      have HBR := Lib.hid hbr; clear hbr
      clear hr
      cases hd : decide (aboveX L f.p < k) with
      | true =>
        have hn := put_laid (f := f) HX.out (of_decide_eq_true hd)
        have HN := Lib.hid hn; clear hn
        have hd2 : decide (aboveX L f.p < k + 1) = true := decide_eq_true (by have := of_decide_eq_true hd; omega)
        have HD2 := Lib.hid hd2; clear hd2
        clear hd
        go_wp2_with fail
        go_region
        go_wp2_with (at_builtin; refine wpList_append_file rfl _ _ rfl w1.heap.size _ (putTo L f k) x wr.heap.size 1 rfl (HRd.below (below_box wr.drew _)) rfl (BoxF.new wr.drew _ _) (by omega) (Nat.le_trans hW (below_box wr _).size) ?_; intro v' w' hown' hgrow; obtain ⟨A', c', rfl⟩ := hown'.slice; rw [List.length_append, List.length_singleton] at hown')
        go_roundw
        case rel => exact ⟨k + 1, by omega, by go_num, by rw [HD2.out], by rw [HN.out]; exact hown', ((HBR.out.drew).trans ((Below.refl _ wr.drew).alloc hW _)).grown hgrow (Nat.le_trans hW (below_box wr _).size) fun j ej => (HR.out.row ej).1⟩
        case measure => simp [intOf]; omega
      | false =>
        have hkm : k ≤ aboveX L f.p := by have := of_decide_eq_false hd; omega
        cases hu : ltB f.p.data.toList x.p.data.toList with
        | false =>
          have hq1 : Op.bytesLess x.p.toList f.p.toList = true := by
            rw [ByteArray.toList_eq, ByteArray.toList_eq]
            cases e : Op.bytesLess x.p.data.toList f.p.data.toList with
            | true => rfl
            | false =>
              have := ltB_tri _ _ hu e
              rw [ByteArray.toList_eq, ByteArray.toList_eq, this] at hq2
              simp at hq2
          obtain ⟨hlt, hn⟩ := put_under HX.out hkm hu
          have HN := Lib.hid hn; clear hn
          have hd2 : decide (aboveX L f.p < k + 1) = false := decide_eq_false (by omega)
          have HD2 := Lib.hid hd2; clear hd2
          clear hd hkm hu
          go_wp2_with fail
          go_region
          go_wp2_with (at_builtin; refine wpList_append_file rfl _ _ rfl w1.heap.size _ (putTo L f k) x wr.heap.size 1 rfl (HRd.below (below_box wr.drew _)) rfl (BoxF.new wr.drew _ _) (by omega) (Nat.le_trans hW (below_box wr _).size) ?_; intro v' w' hown' hgrow; obtain ⟨A', c', rfl⟩ := hown'.slice; rw [List.length_append, List.length_singleton] at hown')
          go_roundw
          case rel => exact ⟨k + 1, by omega, by go_num, by rw [HD2.out], by rw [HN.out]; exact hown', ((HBR.out.drew).trans ((Below.refl _ wr.drew).alloc hW _)).grown hgrow (Nat.le_trans hW (below_box wr _).size) fun j ej => (HR.out.row ej).1⟩
          case measure => simp [intOf]; omega
        | true =>
          have hq1 : Op.bytesLess x.p.toList f.p.toList = false := by rw [ByteArray.toList_eq, ByteArray.toList_eq]; exact ltB_asymm _ _ hu
          obtain ⟨hlt, hn⟩ := put_above HX.out hkm hu
          have HN := Lib.hid hn; clear hn
          have hd2 : decide (aboveX L f.p < k + 1) = true := decide_eq_true (by omega)
          have HD2 := Lib.hid hd2; clear hd2
          clear hd hkm hu hlt
          go_wp2_with fail
          go_region
          go_wp2_with (at_builtin; first | (refine wpList_append_file rfl _ _ rfl w1.heap.size _ (putTo L f k) f wr.heap.size 1 rfl (HRd.below (below_box wr.drew _)) rfl (BoxF.new wr.drew _ _) (by omega) (Nat.le_trans hW (below_box wr _).size) ?_; intro v2 w2 hown2 hgrow2; obtain ⟨A2, c2', rfl⟩ := hown2.slice; rw [List.length_append, List.length_singleton] at hown2; have hb2 := ((HBR.out.drew).trans ((Below.refl _ wr.drew).alloc hW _)).grown hgrow2 (Nat.le_trans hW (below_box wr _).size) (fun j ej => (HR.out.row ej).1); obtain ⟨_, _, hA2, hr2⟩ := (HT.out.below hb2).row (by omega); cases hA2; obtain ⟨d1, d2⟩ := hr2 k x HX.out; clear c1 hr2) | (refine wpList_append_file rfl _ _ rfl w1.heap.size _ (putTo L f k ++ [f]) x w2.heap.size 1 rfl (hown2.below (below_box w2 _)) rfl (BoxF.new w2 _ _) (by rw [List.length_append, List.length_singleton]; omega) (Nat.le_trans hb2.size (below_box w2 _).size) ?_; intro v3 w3 hown3 hgrow3; obtain ⟨A3, c3', rfl⟩ := hown3.slice; rw [List.length_append, List.length_append, List.length_singleton] at hown3))
          go_roundw
          case rel => exact ⟨k + 1, by omega, by go_num, by rw [HD2.out], by rw [HN.out]; exact hown3, (hb2.trans ((Below.refl _ _).alloc hb2.size _)).grown hgrow3 (Nat.le_trans hb2.size (below_box w2 _).size) fun j ej => (hown2.row ej).1⟩
          case measure => simp [intOf]; omega
    · obtain rfl : k = L.length := by omega
      cases hd : decide (aboveX L f.p < L.length) with
      | true =>
        have hn := put_done (of_decide_eq_true hd)
        have HN := Lib.hid hn; clear hn
        go_wp2_with fail
        go_ret
        have hr2 : FilesOwn w.heap.size wr (.slice Av (putTo L f L.length).length cv) (insX L (aboveX L f.p) f) := by rw [← HN.out]; exact hrow.lower HB1.out.size
        exact ⟨.slice Av (putTo L f L.length).length cv, rfl, by rw [HPUT.out]; exact hr2, HB1.out.trans (hbr.mono HB1.out.size)⟩
      | false =>
        have hn := put_last (L := L) (f := f) (by have := of_decide_eq_false hd; omega)
        have HN := Lib.hid hn; clear hn
        go_wp2_with (at_builtin; refine wpList_append_file rfl _ _ rfl w1.heap.size _ (putTo L f L.length) f wr.heap.size 1 rfl (hrow.below (below_box wr _)) rfl (BoxF.new wr _ _) (by omega) (Nat.le_trans hW (below_box wr _).size) ?_; intro v2 w2 hown2 hgrow2)
        go_ret
        rw [HN.out] at hown2
        exact ⟨v2, rfl, by rw [HPUT.out]; exact hown2.lower HB1.out.size, HB1.out.trans (((hbr.trans ((Below.refl _ _).alloc hW _)).grown hgrow2 (Nat.le_trans hW (below_box wr _).size) fun j ej => (hrow.row ej).1).mono HB1.out.size)⟩
end Go.Proofs.YtkihgbggndikpaaGreatDoor
namespace Go.Proofs.YtkihgbggndikpaaGreatDoor
open Go Go.RowKit Go.Shelf Go.Proofs

/-- The files whose paths match. -/
def selX (l : List FX) (g : ByteArray) : List FX := l.filter fun x => matchB g.data.toList x.p.data.toList
def pathVs (l : List FX) : List Value := l.map fun x => .string x.p
def selT (l : List Fl) (g : Bs) : List Bs := (l.filter fun x => matchB g x.1).map (·.1)
theorem selX_snoc {l : List FX} {k : Nat} {x : FX} (g : ByteArray) (hx : l[k]? = some x) : selX (l.take (k + 1)) g = selX (l.take k) g ++ (if matchB g.data.toList x.p.data.toList = true then [x] else []) := by
  unfold selX
  rw [List.take_add_one, hx, List.filter_append]
  simp [List.filter_cons]
theorem selX_le (l : List FX) (g : ByteArray) : (selX l g).length ≤ l.length := List.length_filter_le _ _
theorem selX_all (l : List FX) (g : ByteArray) : selX (l.take l.length) g = selX l g := by rw [List.take_length]
theorem pathVs_length (l : List FX) : (pathVs l).length = l.length := by unfold pathVs; simp
def StrsOwn (base : Nat) (w : World) (v : Value) (l : List FX) : Prop := w.ownsRow base 9 1 v l.length (pathVs l)
def SelPost (w : World) (l : List FX) (e : Ending) (w' : World) : Prop := ∃ v', e = .returned v' ∧ StrsOwn w.heap.size w' v' l ∧ Below w.heap.size w w'

/-- A row of paths. -/
def PathsAt (w : World) (A : Option Addr) (l : List FX) : Prop := 0 < l.length → ∃ g, A = some ⟨g, 0, none⟩ ∧ ∀ i x, l[i]? = some x → w.cell? ⟨g, i, none⟩ = some (.string x.p)
theorem PathsAt.below {w w' : World} {A : Option Addr} {l : List FX} (h : PathsAt w A l) (hb : Below w.heap.size w w') : PathsAt w' A l := fun hn => by
  obtain ⟨g, e, hc⟩ := h hn
  refine ⟨g, e, fun i x hx => ?_⟩
  have h1 := hc i x hx
  exact (hb.cell (p := ⟨g, i, none⟩) (World.block_lt_of_cell? w (a := ⟨g, i, none⟩) h1)).trans h1
theorem StrsOwn.paths {base : Nat} {w : World} {v : Value} {l : List FX} (h : StrsOwn base w v l) : ∃ A c, v = .slice A l.length c ∧ PathsAt w A l := by
  have hown : w.ownsRow base 9 1 v l.length (pathVs l) := h
  rcases hown.2 with ⟨rfl, h0⟩ | ⟨g, cap, cur, rfl, _, _, hc, hcm, _, _⟩
  · refine ⟨none, 0, by rw [h0], fun h => absurd h (by omega)⟩
  · refine ⟨_, _, rfl, fun _ => ⟨g, rfl, fun i x hx => ?_⟩⟩
    have h1 : (pathVs l)[i]? = some (.string x.p) := by unfold pathVs; rw [List.getElem?_map, hx]; rfl
    have a1 := World.ownsRow.cells hown (g := g) rfl _ _ h1
    rw [Go.WideShapes.add_plain, Nat.zero_add] at a1
    exact a1
end Go.Proofs.YtkihgbggndikpaaGreatDoor
namespace Go.Proofs.YtkihgbggndikpaaGreatDoor
open Go Go.RowKit Go.Shelf Go.Proofs
attribute [local go_sem] Oper.semAt_some

def RefGetPost (w : World) (l : List FX) (s : ByteArray) (e : Ending) (w' : World) : Prop :=
  (getT (flsX l) s.data.toList = none ∧ e = .returned (.tuple #[.slice none 0 0, .bool false]) ∧ Below w.heap.size w w') ∨
  ∃ x, x ∈ l ∧ getT (flsX l) s.data.toList = some x.b ∧ e = .returned (.tuple #[.slice x.A x.b.length x.c, .bool true]) ∧ Below w.heap.size w w'

set_option maxHeartbeats 1000000 in
theorem refget_any (l : List FX) (A : Option Addr) (c : Nat) (s : ByteArray) (w : World) (h : TreeAt w A c l) (hl : l.length ≤ 100000) :
    Calls Tryz.prog 32 #[.slice A l.length c, .string s] w (RefGetPost w l s) := by
  have HF := Lib.hid (reffind_any l A c s w h hl)
  rcases place_get l s with ⟨h1, h2, _⟩ | ⟨k, x, h1, h2, h3, _⟩
  · rw [h1] at HF
    have HG := Lib.hid h2
    clear h1 h2 h
    go_enter Tryz.func32, Tryz.ntmps32
    go_wp2_with fail
    refine HF.out.mono ?_
    rintro e w1 ⟨rfl, hb1⟩
    go_wp2_with fail
    go_ret2
    exact .inl ⟨HG.out, rfl, hb1⟩
  · rw [h1] at HF
    have hkl := (List.getElem?_eq_some_iff.1 h2).1
    obtain ⟨g, o, rfl, hr⟩ := h.row (by omega)
    have hmem := List.mem_of_getElem? h2
    have c2 := (hr k x h2).2
    have hgl : g < w.heap.size := World.block_lt_of_cell? w (a := ⟨g, o + k * 2 + 1, none⟩) c2
    have k0 : ¬ (k : Int) < 0 := by omega
    have k1 : (k : Int) < (l.length : Int) := by omega
    have HG := Lib.hid h3
    have HM := Lib.hid hmem
    clear h1 h2 h3 hr h hmem
    go_enter Tryz.func32, Tryz.ntmps32
    go_wp2_with fail
    refine HF.out.mono ?_
    rintro e w1 ⟨rfl, hb1⟩
    have e2 : w1.cell? ⟨g, o + k * 2 + 1, none⟩ = some (.slice x.A x.b.length x.c) := (hb1.cell (p := ⟨g, o + k * 2 + 1, none⟩) hgl).trans c2
    clear c2
    go_wp2_with fail
    go_ret2
    exact .inr ⟨x, HM.out, HG.out, rfl, hb1⟩

/-- One path more in a row of the call's own. -/
theorem wpList_append_path {ops : Array Oper} {rest : List Oper} {o : Oper} {a : Act} {w : World} {Q : Exit → Act → World → Prop} (hgd : o.guard = none) (s y : Operand)
    (ho : o.op = .call { callee := .builtin .append, args := #[s, y], argTypes := #[39, 39] })
    (base : Nat) (v : Value) (l : List FX) (x : FX) (g c : Nat) (hs : a.eval s = v) (hown : StrsOwn base w v l) (hx : a.eval y = .slice (some ⟨g, 0, none⟩) 1 c) (hc : w.cell? ⟨g, 0, none⟩ = some (.string x.p)) (hl : l.length ≤ 100000) (hbase : base ≤ w.heap.size)
    (h : ∀ v' w', StrsOwn base w' v' (l ++ [x]) → w.grownBy w' v.ownBlock → wpList Tryz.prog ops Q rest (a.put o.dst v') w') : wpList Tryz.prog ops Q (o :: rest) a w := by
  obtain ⟨i0, hi, hz0, hz1, hz2⟩ := info_parts string_info
  refine wpList_append_own w hgd s y 39 ho base 9 i0 (.string ⟨#[]⟩) 1 16 Tryz.underlying39 hi hz0 hz1 hz2 rfl (by decide) v l.length (pathVs l) hs hown ⟨g, 0, none⟩ 1 c [.string x.p] hx rfl ?_ ?_ (by unfold maxLen; omega) (by omega) hbase fun v' w' h1 h2 _ => h v' w' ?_ h2
  · intro j u hu
    rw [Go.WideShapes.add_plain, Nat.zero_add]
    match j, hu with
    | 0, hu => obtain rfl : Value.string x.p = u := by simpa using hu
               exact hc
    | j + 1, hu => simp at hu
  · intro u hu
    obtain rfl := List.mem_singleton.1 hu
    rfl
  · show World.ownsRow _ _ _ _ _ _ _
    unfold pathVs
    rw [List.length_append, List.map_append]; exact h1
theorem StrsOwn.kept {base : Nat} {w w' : World} {v : Value} {l : List FX} (h : StrsOwn base w v l) (hb : Below w.heap.size w w') : StrsOwn base w' v l := World.ownsRow.kept h (grownN hb none) (by cases v.ownBlock <;> simp)
theorem StrsOwn.slice {base : Nat} {w : World} {v : Value} {l : List FX} (h : StrsOwn base w v l) : ∃ A c, v = .slice A l.length c := by
  have hown : w.ownsRow base 9 1 v l.length (pathVs l) := h
  rcases hown.2 with ⟨rfl, h0⟩ | ⟨g, cap, cur, rfl, _⟩
  · exact ⟨none, 0, by rw [h0]⟩
  · exact ⟨_, _, rfl⟩

set_option maxHeartbeats 4000000 in
theorem refsametexts_same (l : List FX) (A B : Option Addr) (c d : Nat) (w : World) (ha : PathsAt w A l) (hb : PathsAt w B l) (hl : l.length ≤ 100000) :
    Calls Tryz.prog 24 #[.slice A l.length c, .slice B l.length d] w fun e w' => e = .returned (.bool true) ∧ Below w.heap.size w w' := by
  have HA := Lib.hid ha; clear ha
  have HB := Lib.hid hb; clear hb
  go_enter Tryz.func24, Tryz.ntmps24
  go_wp2_with fail
  go_loopw [5] (fun i wr => ∃ (k : Nat), k ≤ l.length ∧ i = .int .i64 k ∧ Below w.heap.size w wr) (fun i _ => l.length - (intOf i).toNat)
  case atStart => exact ⟨0, Nat.zero_le _, rfl, Below.refl _ _⟩
  case round =>
    obtain ⟨k, hk, rfl, hbr⟩ := hrel
    by_cases h1 : k < l.length
    · obtain ⟨x, hx⟩ : ∃ x, l[k]? = some x := ⟨_, List.getElem?_eq_getElem h1⟩
      obtain ⟨g, hA, hr⟩ := (HA.out.below hbr) (by omega)
      subst hA
      obtain ⟨g', hB, hr'⟩ := (HB.out.below hbr) (by omega)
      subst hB
      have c1 := hr k x hx
      have c2 := hr' k x hx
      have k1 : (k : Int) < (l.length : Int) := by omega
      have wk : IntKind.i64.wrap (k : Int) = (k : Int) := IntWalk.i64_in _ (by omega)
      have hxx : (x.p.toList == x.p.toList) = true := beq_self_eq_true _
      clear hr hr' hx
      go_wp2_with fail
      go_region
      go_wp2_with fail
      go_roundw
      case rel => exact ⟨k + 1, by omega, by go_num, hbr.drew⟩
      case measure => simp [intOf]; omega
    · obtain rfl : k = l.length := by omega
      go_wp2_with fail
      go_ret
      exact ⟨rfl, hbr⟩
end Go.Proofs.YtkihgbggndikpaaGreatDoor
