/-
  The contracts of the document's own answers: Split, Right.
-/
import Derived.Test.YtcnifjjdnomgpaaDoorClean
import Derived.Test.YtcnifjjdnomgpaaDoorRefName
import Derived.WalkKit
namespace Go.Proofs.YtcnifjjdnomgpaaDoor
open Go Go.RowKit Go.Shelf Go.Proofs
attribute [local go_sem] Oper.semAt_some

/-- No sign from f on, up to k. -/
def Clear (c : UInt8) (s : Bs) (f k : Nat) : Prop := ∀ j, f ≤ j → j < k → s[j]? ≠ some c
theorem splitL_clear (c : UInt8) : ∀ (l : Bs) (m : Nat), Clear c l 0 m → l[m]? = some c → splitL c l = l.take m :: splitL c (l.drop (m + 1))
  | [], m, _, h => by simp at h
  | b :: r, 0, _, h => by
    have : b = c := by simpa using h
    subst this
    simp [splitL]
  | b :: r, m + 1, hc, h => by
    have hb : (b == c) = false := by
      rw [beq_eq_false_iff_ne]; intro e
      exact hc 0 (Nat.le_refl _) (by omega) (by simp [e])
    have ih := splitL_clear c r m (fun j _ hj => by have := hc (j + 1) (by omega) (by omega); simpa using this) (by simpa using h)
    simp only [splitL, hb, Bool.false_eq_true, if_false, ih]
    simp
theorem splitL_all (c : UInt8) : ∀ (l : Bs) (m : Nat), Clear c l 0 m → l.length ≤ m → splitL c l = [l]
  | [], _, _, _ => rfl
  | b :: r, m, hc, hm => by
    have hm' : r.length + 1 ≤ m := by simpa using hm
    have hb : (b == c) = false := by
      rw [beq_eq_false_iff_ne]; intro e
      exact hc 0 (Nat.le_refl _) (by omega) (by simp [e])
    have ih := splitL_all c r (m - 1) (fun j _ hj => by have := hc (j + 1) (by omega) (by omega); simpa using this) (by omega)
    simp only [splitL, hb, Bool.false_eq_true, if_false, ih]

/-- What has been gathered, where k has been looked at, and f begins the next piece. -/
def Gathered (c : UInt8) (s : Bs) (k f : Nat) (P : List Bs) : Prop :=
  f ≤ k ∧ k ≤ s.length + 1 ∧ P.length ≤ f ∧ (k ≤ s.length → Clear c s f k ∧ splitL c s = P ++ splitL c (s.drop f)) ∧ (k = s.length + 1 → P = splitL c s)
theorem gathered_start (c : UInt8) (s : Bs) : Gathered c s 0 0 [] := ⟨Nat.le_refl _, by omega, Nat.le_refl _, fun _ => ⟨fun j _ h => by omega, rfl⟩, fun h => by omega⟩
theorem clear_drop (c : UInt8) (s : Bs) (f k : Nat) (h : Clear c s f k) : Clear c (s.drop f) 0 (k - f) := fun j _ hj => by
  rw [List.getElem?_drop]; exact h (f + j) (by omega) (by omega)
theorem gathered_hit (c : UInt8) (s : Bs) (k f : Nat) (P : List Bs) (h : Gathered c s k f P) (hk : s[k]? = some c) : Gathered c s (k + 1) (k + 1) (P ++ [(s.drop f).take (k - f)]) := by
  obtain ⟨h1, h2, h3, h4, _⟩ := h
  have hl : k < s.length := by
    rcases Nat.lt_or_ge k s.length with h | h
    · exact h
    · rw [List.getElem?_eq_none h] at hk; cases hk
  obtain ⟨h5, h6⟩ := h4 (by omega)
  refine ⟨Nat.le_refl _, by omega, by simp; omega, fun _ => ⟨fun j a b => by omega, ?_⟩, fun e => by omega⟩
  rw [h6, splitL_clear c (s.drop f) (k - f) (clear_drop c s f k h5) (by rw [List.getElem?_drop, show f + (k - f) = k by omega]; exact hk), List.drop_drop, show f + (k - f + 1) = k + 1 by omega]
  simp
theorem gathered_miss (c : UInt8) (s : Bs) (k f : Nat) (P : List Bs) (h : Gathered c s k f P) (hl : k < s.length) (hk : s[k]? ≠ some c) : Gathered c s (k + 1) f P := by
  obtain ⟨h1, h2, h3, h4, _⟩ := h
  obtain ⟨h5, h6⟩ := h4 (by omega)
  refine ⟨by omega, by omega, h3, fun _ => ⟨fun j a b => ?_, h6⟩, fun e => by omega⟩
  rcases Nat.lt_or_ge j k with hj | hj
  · exact h5 j a hj
  · rw [show j = k by omega]; exact hk
theorem gathered_end (c : UInt8) (s : Bs) (f : Nat) (P : List Bs) (h : Gathered c s s.length f P) : Gathered c s (s.length + 1) (s.length + 1) (P ++ [(s.drop f).take (s.length - f)]) := by
  obtain ⟨h1, h2, h3, h4, _⟩ := h
  obtain ⟨h5, h6⟩ := h4 (by omega)
  refine ⟨Nat.le_refl _, Nat.le_refl _, by simp; omega, fun e => by omega, fun _ => ?_⟩
  rw [h6, splitL_all c (s.drop f) (s.length - f) (clear_drop c s f _ h5) (by simp), List.take_of_length_le (by simp)]
theorem extract_piece (s : ByteArray) (f k : Nat) (_hf : f ≤ k) : s.extract f k = mkB ((s.data.toList.drop f).take (k - f)) := by
  rw [← data_mkB (s.extract f k)]
  congr 1
  rw [Lib.extract_data]
theorem strVs_snoc (P : List Bs) (s : ByteArray) (f k : Nat) (hf : f ≤ k) : strVs (P ++ [(s.data.toList.drop f).take (k - f)]) = strVs P ++ [.string (s.extract f k)] := by
  simp [strVs, strV, extract_piece s f k hf]

set_option maxRecDepth 100000 in
set_option maxHeartbeats 4000000 in
theorem refsplit_any (s : ByteArray) (c : UInt8) (w : World) (hs : s.size ≤ 1100000) :
    Calls Tryd.prog 34 #[.string s, .int .u8 ↑c.toNat] w fun e w' =>
      ∃ v, e = .returned v ∧ w'.ownsRow w.heap.size 9 1 v (splitL c s.data.toList).length (strVs (splitL c s.data.toList)) ∧ Below w.heap.size w w' := by
  obtain ⟨i0, hi, hz0, hz1, hz2⟩ := info_parts string_info
  have hl : s.data.toList.length = s.size := Array.length_toList
  go_enter Tryd.func34, Tryd.ntmps34
  go_wp2_with fail
  go_loopw [5, 6, 7] (fun v f i wr => ∃ (k g : Nat) (P : List Bs), k ≤ s.size + 1 ∧ g ≤ k ∧ P.length ≤ g ∧ f = .int .i64 g ∧ i = .int .i64 k ∧ wr.ownsRow w.heap.size 9 1 v P.length (strVs P) ∧ Below w.heap.size w wr ∧ Hid (Gathered c s.data.toList k g P)) (fun _ _ i _ => s.size + 1 - (intOf i).toNat)
  case atStart => exact ⟨0, 0, [], Nat.zero_le _, Nat.le_refl _, Nat.le_refl _, rfl, rfl, World.ownsRow_nil _ _ _ _, Below.refl _ _, gathered_start _ _⟩
  case round =>
    obtain ⟨k, g, P, hk, hg, hP, rfl, rfl, hrow, hbr, hga⟩ := hrel
    have hW : w.heap.size ≤ wr.heap.size := hbr.size
    by_cases h1 : k ≤ s.size
    · by_cases h2 : k = s.size
      · subst h2
        have he := gathered_end c s.data.toList g P (by rw [hl]; exact hga.out)
        rw [hl] at he
        have HE := Lib.hid he; clear he hga
        go_wp2_with (at_builtin; refine wpList_append_own _ rfl _ _ 50 rfl w.heap.size 9 i0 (.string ⟨#[]⟩) 1 16 Tryd.underlying50 hi hz0 hz1 hz2 rfl (by decide) _ _ _ rfl (hrow.alloc _) ⟨wr.heap.size, 0, none⟩ 1 1 [.string (s.extract g s.size)] rfl rfl (cell_one_new _ _ _) (by simp [Value.oneCell']) (by unfold maxLen; omega) (by omega) (by simp; omega) ?_; intro v' w1 hown' hgrow _)
        go_roundw
        case rel =>
          refine ⟨s.size + 1, s.size + 1, P ++ [(s.data.toList.drop g).take (s.size - g)], Nat.le_refl _, Nat.le_refl _, by rw [List.length_append]; simp; omega, by go_num, by go_num, ?_, hbr.trans (((Below.refl _ _).alloc hW _).grown hgrow (by simp; omega) fun j ej => (row_ge hrow ej).1), HE.out⟩
          rw [strVs_snoc P s g s.size hg, List.length_append]; exact hown'
        case measure => simp [intOf]
      · have hlt : k < s.size := by omega
        obtain ⟨b, hb⟩ : ∃ b, s[k] = b := ⟨_, rfl⟩
        have hk? : s.data.toList[k]? = some b := by
          rw [List.getElem?_eq_getElem (by rw [hl]; exact hlt), ← hb]; rfl
        by_cases hbc : b = c
        · subst hbc
          have he := gathered_hit b s.data.toList k g P hga.out hk?
          have HE := Lib.hid he; clear he hga
          have HK := Lib.hid hk?; clear hk?
          go_wp2_with (at_builtin; refine wpList_append_own _ rfl _ _ 50 rfl w.heap.size 9 i0 (.string ⟨#[]⟩) 1 16 Tryd.underlying50 hi hz0 hz1 hz2 rfl (by decide) _ _ _ rfl (hrow.alloc _) ⟨wr.heap.size, 0, none⟩ 1 1 [.string (s.extract g k)] rfl rfl (cell_one_new _ _ _) (by simp [Value.oneCell']) (by unfold maxLen; omega) (by omega) (by simp; omega) ?_; intro v' w1 hown' hgrow _)
          go_roundw
          case rel =>
            refine ⟨k + 1, k + 1, P ++ [(s.data.toList.drop g).take (k - g)], by omega, Nat.le_refl _, by simp; (try omega), by go_num, by go_num, ?_, hbr.trans (((Below.refl _ _).alloc hW _).grown hgrow (by simp; omega) fun j ej => (row_ge hrow ej).1), HE.out⟩
            rw [strVs_snoc P s g k hg, List.length_append]; exact hown'
          case measure => simp [intOf]; omega
        · have he := gathered_miss c s.data.toList k g P hga.out (by rw [hl]; exact hlt) (by rw [hk?]; exact fun e => hbc (Option.some.inj e))
          have hne : ¬ ((b.toNat : Int) = (c.toNat : Int)) := fun e => hbc (by rw [← UInt8.toNat_inj]; omega)
          have hne2 : ((b.toNat : Int) == (c.toNat : Int)) = false := by rw [beq_eq_false_iff_ne]; exact hne
          have hks : ((k : Int) == (s.size : Int)) = false := by rw [beq_eq_false_iff_ne]; omega
          have HE := Lib.hid he; clear he hga
          have HK := Lib.hid hk?; clear hk?
          go_wp2_with fail
          go_roundw
          case rel => exact ⟨k + 1, g, P, by omega, by omega, hP, rfl, by go_num, hrow, hbr, HE.out⟩
          case measure => simp [intOf]; omega
    · have h2 : k = s.size + 1 := by omega
      subst h2
      have he := hga.out.2.2.2.2 (by rw [hl])
      subst he
      go_wp2_with fail
      go_ret
      exact ⟨_, rfl, hrow, hbr⟩

set_option maxHeartbeats 4000000 in
theorem refright_any (s : ByteArray) (w : World) (hs : s.size ≤ 1100000) :
    Calls Tryd.prog 41 #[.string s] w fun e w' => e = .returned (.bool (rightB s.data.toList)) ∧ Below w.heap.size w w' := by
  have hl : s.data.toList.length = s.size := Array.length_toList
  have hr : rightB s.data.toList = (decide (s.size ≤ 100) && allTo nameB (piecesB 47 s) (piecesB 47 s).length) := by
    rw [allTo_all]; unfold rightB partsB; rw [hl]
  have hfa := allTo_false nameB 47 s
  have hlen := splitL_length 47 s.data.toList
  have hsm := piecesB_small 47 s
  have hpl : (piecesB 47 s).length = (splitL 47 s.data.toList).length := by unfold piecesB; simp
  obtain ⟨r, hrr⟩ : ∃ r, rightB s.data.toList = r := ⟨_, rfl⟩
  have hfa' : ∀ k, allTo nameB (piecesB 47 s) k = false → r = false := fun k h => by
    rw [← hrr]; unfold rightB partsB; rw [hfa k h]; simp
  rw [hrr] at hr ⊢
  obtain ⟨L, hL⟩ : ∃ L, splitL 47 s.data.toList = L := ⟨_, rfl⟩
  obtain ⟨X, hX⟩ : ∃ X, piecesB 47 s = X := ⟨_, rfl⟩
  have hLX : ∀ j x, X[j]? = some x → (strVs L)[j]? = some (Value.string x) := fun j x h => by
    rw [← hX] at h; rw [← hL]
    unfold piecesB at h
    unfold strVs strV
    rw [List.getElem?_map] at h ⊢
    cases e : (splitL 47 s.data.toList)[j]? with
    | none => rw [e] at h; cases h
    | some p => rw [e] at h; cases h; rfl
  rw [hX] at hr hfa' hpl hsm
  rw [hL] at hlen hpl
  have HR := Lib.hid hr; clear hr
  have HF := Lib.hid hfa'; clear hfa' hfa
  have HLX := Lib.hid hLX; clear hLX
  have HSM := Lib.hid hsm; clear hsm
  clear hX hrr
  go_enter Tryd.func41, Tryd.ntmps41
  go_wp2_with fail
  refine (refsplit_any s 47 _ hs).mono ?_
  rintro e w1 ⟨v, rfl, hrow, hb1⟩
  rw [hL] at hrow
  have hne : L.length ≠ 0 := fun e => splitL_ne 47 s.data.toList (by rw [hL]; exact List.eq_nil_of_length_eq_zero e)
  obtain ⟨n, hn⟩ : ∃ n, L.length = n + 1 := ⟨L.length - 1, by omega⟩
  rw [hn] at hrow
  obtain ⟨g, cap, rfl⟩ := ownsRow_succ hrow
  have hcell := hrow.cells (g := g) rfl
  have hcells : ∀ j x, X[j]? = some x → w1.cell? ⟨g, j, none⟩ = some (.string x) := fun j x h => by
    have := hcell j _ (HLX.out j x h)
    unfold Addr.add at this
    split at this
    · rename_i hz; subst hz; exact this
    · simpa using this
  have HC := Lib.hid hcells; clear hcells hcell hrow
  clear hL
  go_wp2_with fail
  go_loop [4] (fun i => ∃ k : Nat, k ≤ n + 1 ∧ i = .int .i64 k ∧ Hid (allTo nameB X k = true)) (fun i => n + 1 - (intOf i).toNat)
  case atStart => exact ⟨0, Nat.zero_le _, rfl, rfl⟩
  case round =>
    obtain ⟨k, hk, rfl, hall⟩ := hrel
    by_cases hlt : k < n + 1
    · have hkX : k < X.length := by omega
      obtain ⟨x, hx⟩ : ∃ x, X[k] = x := ⟨_, rfl⟩
      have hxk : X[k]? = some x := by rw [List.getElem?_eq_getElem hkX, hx]
      have hxs := HSM.out x (by rw [← hx]; exact List.getElem_mem _)
      have hcx := HC.out k x hxk
      have hsn := allTo_snoc nameB X k x hxk hall.out
      have HS := Lib.hid hsn; clear hsn
      clear hx
      have HX := Lib.hid hxk; clear hxk
      cases hp : nameB x.data.toList with
      | true =>
        have HP := Lib.hid hp; clear hp
        go_wp2_with (go_at_call 71; refine (refname_any x _ (by unfold maxLen; omega)).mono ?_; rintro e w' ⟨rfl, rfl⟩; rw [HP.out])
        go_round
        case rel => exact ⟨k + 1, by omega, by go_num, by unfold Hid; rw [HS.out]; exact HP.out⟩
        case measure => simp [intOf]; omega
      | false =>
        have HP := Lib.hid hp; clear hp
        go_wp2_with (go_at_call 71; refine (refname_any x _ (by unfold maxLen; omega)).mono ?_; rintro e w' ⟨rfl, rfl⟩; rw [HP.out])
        go_ret
        exact ⟨ret_bool (HF.out (k + 1) (by rw [HS.out]; exact HP.out)).symm, hb1⟩
    · have hk2 : k = X.length := by omega
      have hr2 : r = decide ((s.size : Int) ≤ 100) := by
        have := hall.out; rw [hk2] at this
        rw [HR.out, this, Bool.and_true, Bool.eq_iff_iff]; simp; omega
      have H2 := Lib.hid hr2; clear hr2
      clear HR
      go_wp2_with fail
      go_ret
      exact ⟨ret_bool H2.out.symm, hb1⟩
end Go.Proofs.YtcnifjjdnomgpaaDoor
