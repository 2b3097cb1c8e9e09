/-
  The contracts of the document's own answers: plain, Name. · The contracts of the document's own answers: Split, Right. · How a row of strings lies in the cells of a block, and stays there. · Plain facts on rows of patterns, from behind: what the document's own answer reckons front by front. · The contracts of the document's own answers: pattern, Glob.
-/
import Derived.Test.YtckpojkbcbogbaaDoorConsists
import Derived.Test.YtckpojkbcbogbaaDoorCaught
import Derived.WalkKit
namespace Go.Proofs.YtckpojkbcbogbaaDoor
open Go Go.RowKit Go.Shelf Go.Proofs
attribute [local go_sem] Oper.semAt_some

set_option maxHeartbeats 1000000 in
theorem refplain_any (c : Int) (w : World) (h0 : 0 ≤ c) (h1 : c ≤ 255) :
    Calls Tryd.prog 100 #[.int .u8 c] w fun e w' => e = .returned (.bool (plainI c)) ∧ w' = w := by
  go_enter Tryd.func100, Tryd.ntmps100
  go_wp2
  all_goals (go_ret; exact ⟨ret_bool (by unfold plainI; first | decide | (rw [Bool.eq_iff_iff]; simp <;> omega)), rfl⟩)

theorem refplain_byte (b : UInt8) (w : World) : Calls Tryd.prog 100 #[.int .u8 ↑b.toNat] w fun e w' => e = .returned (.bool (plainB b)) ∧ w' = w := by
  have := b.toNat_lt
  have h := refplain_any b.toNat w (by omega) (by omega)
  rwa [plainI_eq] at h

theorem nameB_eq (s : ByteArray) : nameB s.data.toList = (s.data.toList.all plainB && (decide (0 < s.size) && decide (s.size ≤ 30) && !(s.toList == [46]) && !(s.toList == [46, 46]))) := by
  have hl : s.data.toList.length = s.size := Array.length_toList
  have he : s.data.toList.isEmpty = !decide (0 < s.size) := by
    rw [← hl]; cases s.data.toList <;> simp
  have ho : okB [] = plainB := by funext c; unfold okB; simp
  unfold nameB speltB
  rw [he, ho, ByteArray.toList_eq, hl]
  cases s.data.toList.all plainB <;> cases decide (0 < s.size) <;> cases decide (s.size ≤ 30) <;> cases (s.data.toList == [46]) <;> cases (s.data.toList == [46, 46]) <;> rfl

set_option maxHeartbeats 2000000 in
theorem refname_any (s : ByteArray) (w : World) (hs : s.size ≤ maxLen) :
    Calls Tryd.prog 81 #[.string s] w fun e w' => e = .returned (.bool (nameB s.data.toList)) ∧ w' = w := by
  unfold maxLen at hs
  have hn := nameB_eq s
  obtain ⟨r, hr⟩ : ∃ r, nameB s.data.toList = r := ⟨_, rfl⟩
  rw [hr] at hn ⊢
  have HN := Lib.hid hn; clear hn hr
  go_enter Tryd.func81, Tryd.ntmps81
  go_wp2_with fail
  go_loop [3] (fun i => ∃ k : Nat, k ≤ s.size ∧ i = .int .i64 k ∧ Hid ((s.data.toList.take k).all plainB = true)) (fun i => s.size - (intOf i).toNat)
  case atStart => exact ⟨0, Nat.zero_le _, rfl, rfl⟩
  case round =>
    obtain ⟨k, hk, rfl, hall⟩ := hrel
    by_cases hlt : k < s.size
    · have hsn := all_snoc plainB s k hlt hall.out
      obtain ⟨b, hb⟩ : ∃ b, s[k] = b := ⟨_, rfl⟩
      have HS := Lib.hid hsn; clear hsn
      have HB := Lib.hid hb; clear hb
      cases hp : plainB b with
      | true =>
        have HP := Lib.hid hp; clear hp
        go_wp2_with (go_at_call 100; refine (refplain_byte _ _).mono ?_; rintro e w' ⟨rfl, rfl⟩; rw [HB.out, HP.out])
        go_round
        case rel => exact ⟨k + 1, by omega, by go_num, by unfold Hid; rw [HS.out, HB.out]; exact HP.out⟩
        case measure => simp [intOf]; omega
      | false =>
        have HP := Lib.hid hp; clear hp
        go_wp2_with (go_at_call 100; refine (refplain_byte _ _).mono ?_; rintro e w' ⟨rfl, rfl⟩; rw [HB.out, HP.out])
        go_ret
        exact ⟨ret_bool (by rw [HN.out, all_take_false _ s (k + 1) (by rw [HS.out, HB.out]; exact HP.out)]; rfl), rfl⟩
    · have ha : s.data.toList.all plainB = true := by
        have h := hall.out; rw [List.take_of_length_le (by rw [Array.length_toList]; show s.size ≤ k; omega)] at h; exact h
      have HN2 : Hid (r = (decide (0 < s.size) && decide (s.size ≤ 30) && !(s.toList == [46]) && !(s.toList == [46, 46]))) := by
        unfold Hid; rw [HN.out, ha]; rfl
      clear ha HN hall
      by_cases h0 : (0 : Int) < (s.size : Int)
      · have e0 : decide (0 < s.size) = true := decide_eq_true (by omega)
        by_cases h1 : (s.size : Int) ≤ 30
        · have e1 : decide (s.size ≤ 30) = true := decide_eq_true (by omega)
          cases h2 : (s.toList == [46]) with
          | true =>
            have g2 : (s.toList != [46]) = false := by unfold bne; rw [h2]; rfl
            have H := Lib.hid (show r = false by rw [HN2.out, e0, e1, h2]; rfl)
            clear HN2 e0 e1
            go_wp2_with fail
            go_ret
            exact ⟨ret_bool H.out.symm, rfl⟩
          | false =>
            have g2 : (s.toList != [46]) = true := by unfold bne; rw [h2]; rfl
            cases h3 : (s.toList == [46, 46]) with
            | true =>
              have g3 : (s.toList != [46, 46]) = false := by unfold bne; rw [h3]; rfl
              have H := Lib.hid (show r = false by rw [HN2.out, e0, e1, h2, h3]; rfl)
              clear HN2 e0 e1
              go_wp2_with fail
              go_ret
              exact ⟨ret_bool H.out.symm, rfl⟩
            | false =>
              have g3 : (s.toList != [46, 46]) = true := by unfold bne; rw [h3]; rfl
              have H := Lib.hid (show r = true by rw [HN2.out, e0, e1, h2, h3]; rfl)
              clear HN2 e0 e1
              go_wp2_with fail
              go_ret
              exact ⟨ret_bool H.out.symm, rfl⟩
        · have H := Lib.hid (show r = false by rw [HN2.out, e0, decide_eq_false (by omega)]; rfl)
          clear HN2 e0
          go_wp2_with fail
          go_ret
          exact ⟨ret_bool H.out.symm, rfl⟩
      · have H := Lib.hid (show r = false by rw [HN2.out, decide_eq_false (by omega)]; rfl)
        clear HN2
        go_wp2_with fail
        go_ret
        exact ⟨ret_bool H.out.symm, rfl⟩
end Go.Proofs.YtckpojkbcbogbaaDoor
namespace Go.Proofs.YtckpojkbcbogbaaDoor
open Go Go.RowKit Go.Shelf Go.Proofs
attribute [local go_sem] Oper.semAt_some

/-- No sign from f on, up to k. -/
def Clear (c : UInt8) (s : Bs) (f k : Nat) : Prop := ∀ j, f ≤ j → j < k → s[j]? ≠ some c
theorem splitL_clear (c : UInt8) : ∀ (l : Bs) (m : Nat), Clear c l 0 m → l[m]? = some c → splitL c l = l.take m :: splitL c (l.drop (m + 1))
  | [], m, _, h => by simp at h
  | b :: r, 0, _, h => by
    have : b = c := by simpa using h
    subst this
    simp [splitL]
  | b :: r, m + 1, hc, h => by
    have hb : (b == c) = false := by
      rw [beq_eq_false_iff_ne]; intro e
      exact hc 0 (Nat.le_refl _) (by omega) (by simp [e])
    have ih := splitL_clear c r m (fun j _ hj => by have := hc (j + 1) (by omega) (by omega); simpa using this) (by simpa using h)
    simp only [splitL, hb, Bool.false_eq_true, if_false, ih]
    simp
theorem splitL_all (c : UInt8) : ∀ (l : Bs) (m : Nat), Clear c l 0 m → l.length ≤ m → splitL c l = [l]
  | [], _, _, _ => rfl
  | b :: r, m, hc, hm => by
    have hm' : r.length + 1 ≤ m := by simpa using hm
    have hb : (b == c) = false := by
      rw [beq_eq_false_iff_ne]; intro e
      exact hc 0 (Nat.le_refl _) (by omega) (by simp [e])
    have ih := splitL_all c r (m - 1) (fun j _ hj => by have := hc (j + 1) (by omega) (by omega); simpa using this) (by omega)
    simp only [splitL, hb, Bool.false_eq_true, if_false, ih]

/-- What has been gathered, where k has been looked at, and f begins the next piece. -/
def Gathered (c : UInt8) (s : Bs) (k f : Nat) (P : List Bs) : Prop :=
  f ≤ k ∧ k ≤ s.length + 1 ∧ P.length ≤ f ∧ (k ≤ s.length → Clear c s f k ∧ splitL c s = P ++ splitL c (s.drop f)) ∧ (k = s.length + 1 → P = splitL c s)
theorem gathered_start (c : UInt8) (s : Bs) : Gathered c s 0 0 [] := ⟨Nat.le_refl _, by omega, Nat.le_refl _, fun _ => ⟨fun j _ h => by omega, rfl⟩, fun h => by omega⟩
theorem clear_drop (c : UInt8) (s : Bs) (f k : Nat) (h : Clear c s f k) : Clear c (s.drop f) 0 (k - f) := fun j _ hj => by
  rw [List.getElem?_drop]; exact h (f + j) (by omega) (by omega)
theorem gathered_hit (c : UInt8) (s : Bs) (k f : Nat) (P : List Bs) (h : Gathered c s k f P) (hk : s[k]? = some c) : Gathered c s (k + 1) (k + 1) (P ++ [(s.drop f).take (k - f)]) := by
  obtain ⟨h1, h2, h3, h4, _⟩ := h
  have hl : k < s.length := by
    rcases Nat.lt_or_ge k s.length with h | h
    · exact h
    · rw [List.getElem?_eq_none h] at hk; cases hk
  obtain ⟨h5, h6⟩ := h4 (by omega)
  refine ⟨Nat.le_refl _, by omega, by simp; omega, fun _ => ⟨fun j a b => by omega, ?_⟩, fun e => by omega⟩
  rw [h6, splitL_clear c (s.drop f) (k - f) (clear_drop c s f k h5) (by rw [List.getElem?_drop, show f + (k - f) = k by omega]; exact hk), List.drop_drop, show f + (k - f + 1) = k + 1 by omega]
  simp
theorem gathered_miss (c : UInt8) (s : Bs) (k f : Nat) (P : List Bs) (h : Gathered c s k f P) (hl : k < s.length) (hk : s[k]? ≠ some c) : Gathered c s (k + 1) f P := by
  obtain ⟨h1, h2, h3, h4, _⟩ := h
  obtain ⟨h5, h6⟩ := h4 (by omega)
  refine ⟨by omega, by omega, h3, fun _ => ⟨fun j a b => ?_, h6⟩, fun e => by omega⟩
  rcases Nat.lt_or_ge j k with hj | hj
  · exact h5 j a hj
  · rw [show j = k by omega]; exact hk
theorem gathered_end (c : UInt8) (s : Bs) (f : Nat) (P : List Bs) (h : Gathered c s s.length f P) : Gathered c s (s.length + 1) (s.length + 1) (P ++ [(s.drop f).take (s.length - f)]) := by
  obtain ⟨h1, h2, h3, h4, _⟩ := h
  obtain ⟨h5, h6⟩ := h4 (by omega)
  refine ⟨Nat.le_refl _, Nat.le_refl _, by simp; omega, fun e => by omega, fun _ => ?_⟩
  rw [h6, splitL_all c (s.drop f) (s.length - f) (clear_drop c s f _ h5) (by simp), List.take_of_length_le (by simp)]
theorem extract_piece (s : ByteArray) (f k : Nat) (_hf : f ≤ k) : s.extract f k = mkB ((s.data.toList.drop f).take (k - f)) := by
  rw [← data_mkB (s.extract f k)]
  congr 1
  rw [Lib.extract_data]
theorem strVs_snoc (P : List Bs) (s : ByteArray) (f k : Nat) (hf : f ≤ k) : strVs (P ++ [(s.data.toList.drop f).take (k - f)]) = strVs P ++ [.string (s.extract f k)] := by
  simp [strVs, strV, extract_piece s f k hf]

set_option maxRecDepth 100000 in
set_option maxHeartbeats 4000000 in
theorem refsplit_any (s : ByteArray) (c : UInt8) (w : World) (hs : s.size ≤ 1100000) :
    Calls Tryd.prog 55 #[.string s, .int .u8 ↑c.toNat] w fun e w' =>
      ∃ v, e = .returned v ∧ w'.ownsRow w.heap.size 9 1 v (splitL c s.data.toList).length (strVs (splitL c s.data.toList)) ∧ Below w.heap.size w w' := by
  obtain ⟨i0, hi, hz0, hz1, hz2⟩ := info_parts string_info
  have hl : s.data.toList.length = s.size := Array.length_toList
  go_enter Tryd.func55, Tryd.ntmps55
  go_wp2_with fail
  go_loopw [5, 6, 7] (fun v f i wr => ∃ (k g : Nat) (P : List Bs), k ≤ s.size + 1 ∧ g ≤ k ∧ P.length ≤ g ∧ f = .int .i64 g ∧ i = .int .i64 k ∧ wr.ownsRow w.heap.size 9 1 v P.length (strVs P) ∧ Below w.heap.size w wr ∧ Hid (Gathered c s.data.toList k g P)) (fun _ _ i _ => s.size + 1 - (intOf i).toNat)
  case atStart => exact ⟨0, 0, [], Nat.zero_le _, Nat.le_refl _, Nat.le_refl _, rfl, rfl, World.ownsRow_nil _ _ _ _, Below.refl _ _, gathered_start _ _⟩
  case round =>
    obtain ⟨k, g, P, hk, hg, hP, rfl, rfl, hrow, hbr, hga⟩ := hrel
    have hW : w.heap.size ≤ wr.heap.size := hbr.size
    by_cases h1 : k ≤ s.size
    · by_cases h2 : k = s.size
      · subst h2
        have he := gathered_end c s.data.toList g P (by rw [hl]; exact hga.out)
        rw [hl] at he
        have HE := Lib.hid he; clear he hga
        go_wp2_with (at_builtin; refine wpList_append_own _ rfl _ _ 34 rfl w.heap.size 9 i0 (.string ⟨#[]⟩) 1 16 Tryd.underlying34 hi hz0 hz1 hz2 rfl (by decide) _ _ _ rfl (hrow.alloc _) ⟨wr.heap.size, 0, none⟩ 1 1 [.string (s.extract g s.size)] rfl rfl (cell_one_new _ _ _) (by simp [Value.oneCell']) (by unfold maxLen; omega) (by omega) (by simp; omega) ?_; intro v' w1 hown' hgrow _)
        go_roundw
        case rel =>
          refine ⟨s.size + 1, s.size + 1, P ++ [(s.data.toList.drop g).take (s.size - g)], Nat.le_refl _, Nat.le_refl _, by rw [List.length_append]; simp; omega, by go_num, by go_num, ?_, hbr.trans (((Below.refl _ _).alloc hW _).grown hgrow (by simp; omega) fun j ej => (row_ge hrow ej).1), HE.out⟩
          rw [strVs_snoc P s g s.size hg, List.length_append]; exact hown'
        case measure => simp [intOf]
      · have hlt : k < s.size := by omega
        obtain ⟨b, hb⟩ : ∃ b, s[k] = b := ⟨_, rfl⟩
        have hk? : s.data.toList[k]? = some b := by
          rw [List.getElem?_eq_getElem (by rw [hl]; exact hlt), ← hb]; rfl
        by_cases hbc : b = c
        · subst hbc
          have he := gathered_hit b s.data.toList k g P hga.out hk?
          have HE := Lib.hid he; clear he hga
          have HK := Lib.hid hk?; clear hk?
          go_wp2_with (at_builtin; refine wpList_append_own _ rfl _ _ 34 rfl w.heap.size 9 i0 (.string ⟨#[]⟩) 1 16 Tryd.underlying34 hi hz0 hz1 hz2 rfl (by decide) _ _ _ rfl (hrow.alloc _) ⟨wr.heap.size, 0, none⟩ 1 1 [.string (s.extract g k)] rfl rfl (cell_one_new _ _ _) (by simp [Value.oneCell']) (by unfold maxLen; omega) (by omega) (by simp; omega) ?_; intro v' w1 hown' hgrow _)
          go_roundw
          case rel =>
            refine ⟨k + 1, k + 1, P ++ [(s.data.toList.drop g).take (k - g)], by omega, Nat.le_refl _, by simp; (try omega), by go_num, by go_num, ?_, hbr.trans (((Below.refl _ _).alloc hW _).grown hgrow (by simp; omega) fun j ej => (row_ge hrow ej).1), HE.out⟩
            rw [strVs_snoc P s g k hg, List.length_append]; exact hown'
          case measure => simp [intOf]; omega
        · have he := gathered_miss c s.data.toList k g P hga.out (by rw [hl]; exact hlt) (by rw [hk?]; exact fun e => hbc (Option.some.inj e))
          have hne : ¬ ((b.toNat : Int) = (c.toNat : Int)) := fun e => hbc (by rw [← UInt8.toNat_inj]; omega)
          have hne2 : ((b.toNat : Int) == (c.toNat : Int)) = false := by rw [beq_eq_false_iff_ne]; exact hne
          have hks : ((k : Int) == (s.size : Int)) = false := by rw [beq_eq_false_iff_ne]; omega
          have HE := Lib.hid he; clear he hga
          have HK := Lib.hid hk?; clear hk?
          go_wp2_with fail
          go_roundw
          case rel => exact ⟨k + 1, g, P, by omega, by omega, hP, rfl, by go_num, hrow, hbr, HE.out⟩
          case measure => simp [intOf]; omega
    · have h2 : k = s.size + 1 := by omega
      subst h2
      have he := hga.out.2.2.2.2 (by rw [hl])
      subst he
      go_wp2_with fail
      go_ret
      exact ⟨_, rfl, hrow, hbr⟩

set_option maxHeartbeats 4000000 in
theorem refright_any (s : ByteArray) (w : World) (hs : s.size ≤ 1100000) :
    Calls Tryd.prog 54 #[.string s] w fun e w' => e = .returned (.bool (rightB s.data.toList)) ∧ Below w.heap.size w w' := by
  have hl : s.data.toList.length = s.size := Array.length_toList
  have hr : rightB s.data.toList = (decide (s.size ≤ 100) && allTo nameB (piecesB 47 s) (piecesB 47 s).length) := by
    rw [allTo_all]; unfold rightB partsB; rw [hl]
  have hfa := allTo_false nameB 47 s
  have hlen := splitL_length 47 s.data.toList
  have hsm := piecesB_small 47 s
  have hpl : (piecesB 47 s).length = (splitL 47 s.data.toList).length := by unfold piecesB; simp
  obtain ⟨r, hrr⟩ : ∃ r, rightB s.data.toList = r := ⟨_, rfl⟩
  have hfa' : ∀ k, allTo nameB (piecesB 47 s) k = false → r = false := fun k h => by
    rw [← hrr]; unfold rightB partsB; rw [hfa k h]; simp
  rw [hrr] at hr ⊢
  obtain ⟨L, hL⟩ : ∃ L, splitL 47 s.data.toList = L := ⟨_, rfl⟩
  obtain ⟨X, hX⟩ : ∃ X, piecesB 47 s = X := ⟨_, rfl⟩
  have hLX : ∀ j x, X[j]? = some x → (strVs L)[j]? = some (Value.string x) := fun j x h => by
    rw [← hX] at h; rw [← hL]
    unfold piecesB at h
    unfold strVs strV
    rw [List.getElem?_map] at h ⊢
    cases e : (splitL 47 s.data.toList)[j]? with
    | none => rw [e] at h; cases h
    | some p => rw [e] at h; cases h; rfl
  rw [hX] at hr hfa' hpl hsm
  rw [hL] at hlen hpl
  have HR := Lib.hid hr; clear hr
  have HF := Lib.hid hfa'; clear hfa' hfa
  have HLX := Lib.hid hLX; clear hLX
  have HSM := Lib.hid hsm; clear hsm
  clear hX hrr
  go_enter Tryd.func54, Tryd.ntmps54
  go_wp2_with fail
  refine (refsplit_any s 47 _ hs).mono ?_
  rintro e w1 ⟨v, rfl, hrow, hb1⟩
  rw [hL] at hrow
  have hne : L.length ≠ 0 := fun e => splitL_ne 47 s.data.toList (by rw [hL]; exact List.eq_nil_of_length_eq_zero e)
  obtain ⟨n, hn⟩ : ∃ n, L.length = n + 1 := ⟨L.length - 1, by omega⟩
  rw [hn] at hrow
  obtain ⟨g, cap, rfl⟩ := ownsRow_succ hrow
  have hcell := hrow.cells (g := g) rfl
  have hcells : ∀ j x, X[j]? = some x → w1.cell? ⟨g, j, none⟩ = some (.string x) := fun j x h => by
    have := hcell j _ (HLX.out j x h)
    unfold Addr.add at this
    split at this
    · rename_i hz; subst hz; exact this
    · simpa using this
  have HC := Lib.hid hcells; clear hcells hcell hrow
  clear hL
  go_wp2_with fail
  go_loop [4] (fun i => ∃ k : Nat, k ≤ n + 1 ∧ i = .int .i64 k ∧ Hid (allTo nameB X k = true)) (fun i => n + 1 - (intOf i).toNat)
  case atStart => exact ⟨0, Nat.zero_le _, rfl, rfl⟩
  case round =>
    obtain ⟨k, hk, rfl, hall⟩ := hrel
    by_cases hlt : k < n + 1
    · have hkX : k < X.length := by omega
      obtain ⟨x, hx⟩ : ∃ x, X[k] = x := ⟨_, rfl⟩
      have hxk : X[k]? = some x := by rw [List.getElem?_eq_getElem hkX, hx]
      have hxs := HSM.out x (by rw [← hx]; exact List.getElem_mem _)
      have hcx := HC.out k x hxk
      have hsn := allTo_snoc nameB X k x hxk hall.out
      have HS := Lib.hid hsn; clear hsn
      clear hx
      have HX := Lib.hid hxk; clear hxk
      cases hp : nameB x.data.toList with
      | true =>
        have HP := Lib.hid hp; clear hp
        go_wp2_with (go_at_call 81; refine (refname_any x _ (by unfold maxLen; omega)).mono ?_; rintro e w' ⟨rfl, rfl⟩; rw [HP.out])
        go_round
        case rel => exact ⟨k + 1, by omega, by go_num, by unfold Hid; rw [HS.out]; exact HP.out⟩
        case measure => simp [intOf]; omega
      | false =>
        have HP := Lib.hid hp; clear hp
        go_wp2_with (go_at_call 81; refine (refname_any x _ (by unfold maxLen; omega)).mono ?_; rintro e w' ⟨rfl, rfl⟩; rw [HP.out])
        go_ret
        exact ⟨ret_bool (HF.out (k + 1) (by rw [HS.out]; exact HP.out)).symm, hb1⟩
    · have hk2 : k = X.length := by omega
      have hr2 : r = decide ((s.size : Int) ≤ 100) := by
        have := hall.out; rw [hk2] at this
        rw [HR.out, this, Bool.and_true, Bool.eq_iff_iff]; simp; omega
      have H2 := Lib.hid hr2; clear hr2
      clear HR
      go_wp2_with fail
      go_ret
      exact ⟨ret_bool H2.out.symm, hb1⟩
end Go.Proofs.YtckpojkbcbogbaaDoor
namespace Go.Proofs.YtckpojkbcbogbaaDoor
open Go Go.RowKit Go.Shelf Go.Proofs

/-- The cells of a slice of strings, from block g on, read L. -/
def RowS (g : Nat) (L : List Bs) (w : World) : Prop := ∀ j p, L[j]? = some p → w.cell? ⟨g, j, none⟩ = some (.string (mkB p))
theorem rowS_of {w : World} {b g n cap : Nat} {L : List Bs} (h : w.ownsRow b 9 1 (.slice (some ⟨g, 0, none⟩) n cap) n (strVs L)) : RowS g L w := fun j p hp => by
  have := h.cells (g := g) rfl j (.string (mkB p)) (by unfold strVs strV; rw [List.getElem?_map, hp]; rfl)
  unfold Addr.add at this
  split at this
  · rename_i hz; subst hz; exact this
  · simpa using this

theorem RowS.below {n : Nat} {w w' : World} {g : Nat} {L : List Bs} (h : RowS g L w) (hb : Below n w w') (hg : g < n) : RowS g L w' := fun j p hp => (hb.cell (p := ⟨g, j, none⟩) hg).trans (h j p hp)
theorem names_row {w : World} {b n : Nat} {v : Value} {L : List Bs} (h : w.ownsRow b 9 1 v n (strVs L)) (hn : n ≠ 0) : ∃ g cap, v = .slice (some ⟨g, 0, none⟩) n cap ∧ RowS g L w ∧ b ≤ g ∧ g < w.heap.size := by
  cases n with
  | zero => exact absurd rfl hn
  | succ k =>
    obtain ⟨g, cap, rfl⟩ := ownsRow_succ h
    obtain ⟨h1, cur, h2⟩ := row_ge h rfl
    exact ⟨g, cap, rfl, rowS_of h, h1, (Array.getElem?_eq_some_iff.1 h2).1⟩
end Go.Proofs.YtckpojkbcbogbaaDoor
namespace Go.Proofs.YtckpojkbcbogbaaDoor
open Go

theorem parted_nil_one {α : Type} (many : α → Bool) (one : α → α → Bool) (p : α) (hp : many p = false) : ∀ P : List α, partedB many one (P ++ [p]) [] = false
  | [] => by simp [partedB, hp]
  | q :: P => by
    have ih := parted_nil_one many one p hp P
    simp only [List.cons_append, partedB, ih, Bool.and_false]
theorem parted_nil_many {α : Type} (many : α → Bool) (one : α → α → Bool) (p : α) (hp : many p = true) : ∀ P : List α, partedB many one (P ++ [p]) [] = partedB many one P []
  | [] => by simp [partedB, hp]
  | q :: P => by
    have ih := parted_nil_many many one p hp P
    simp only [List.cons_append, partedB, ih]
theorem parted_snoc_one {α : Type} (many : α → Bool) (one : α → α → Bool) (p x : α) (hp : many p = false) : ∀ P I : List α, partedB many one (P ++ [p]) (I ++ [x]) = (partedB many one P I && one p x) := by
  intro P
  induction P with
  | nil =>
    intro I
    cases I with
    | nil => simp [partedB, hp]
    | cons i J =>
      have h : partedB many one [] (J ++ [x]) = false := by rw [partedB]; cases J <;> rfl
      simp only [List.nil_append, List.cons_append, partedB, hp, Bool.false_eq_true, if_false]
      cases J <;> simp
  | cons q P ih =>
    intro I
    induction I with
    | nil =>
      have h1 := ih []
      have h2 := parted_nil_one many one p hp P
      simp only [List.nil_append] at h1
      simp only [List.nil_append, List.cons_append, partedB, h1, h2]
      cases many q <;> simp
    | cons i J ihJ =>
      have h1 := ih (i :: J)
      have h2 := ih J
      simp only [List.cons_append] at h1 ihJ
      simp only [List.cons_append, partedB, h1, h2, ihJ]
      cases many q <;> cases one p x <;> simp
theorem parted_snoc_many {α : Type} (many : α → Bool) (one : α → α → Bool) (p x : α) (hp : many p = true) : ∀ P I : List α, partedB many one (P ++ [p]) (I ++ [x]) = (partedB many one P (I ++ [x]) || partedB many one (P ++ [p]) I) := by
  intro P
  induction P with
  | nil =>
    intro I
    rw [List.nil_append, parted_rest many one p hp, parted_rest many one p hp, Bool.or_true]
  | cons q P ih =>
    intro I
    induction I with
    | nil =>
      have h1 := ih []
      have h2 := parted_nil_many many one p hp P
      simp only [List.nil_append] at h1
      simp only [List.nil_append, List.cons_append, partedB, h1, h2]
      cases many q <;> cases partedB many one P [x] <;> cases partedB many one P [] <;> simp
    | cons i J ihJ =>
      have h1 := ih (i :: J)
      have h2 := ih J
      simp only [List.cons_append] at h1 ihJ
      simp only [List.cons_append, partedB, h1, h2, ihJ]
      cases many q <;> simp only [Bool.false_eq_true, if_false, if_true]
      · cases one q i <;> simp
      · generalize partedB many one P (i :: (J ++ [x])) = a1
        generalize partedB many one (P ++ [p]) (i :: J) = a2
        generalize partedB many one (q :: P) (J ++ [x]) = a3
        generalize partedB many one (q :: (P ++ [p])) J = a4
        cases a1 <;> cases a2 <;> cases a3 <;> cases a4 <;> rfl

/-- What the document's answer reckons: how the first i patterns and the first k items fit. -/
def frontsB {α : Type} (many : α → Bool) (one : α → α → Bool) (ps is : List α) (i k : Nat) : Bool := partedB many one (ps.take i) (is.take k)
theorem fronts_none {α : Type} (many : α → Bool) (one : α → α → Bool) (ps is : List α) (k : Nat) (hk : k ≤ is.length) : frontsB many one ps is 0 k = decide (k = 0) := by
  unfold frontsB
  rw [List.take_zero, partedB]
  cases k with
  | zero => rfl
  | succ k =>
    have : is.take (k + 1) ≠ [] := fun e => by
      have := congrArg List.length e
      rw [List.length_take, List.length_nil] at this; omega
    cases e : is.take (k + 1) with
    | nil => exact absurd e this
    | cons a r => simp
theorem fronts_many_zero {α : Type} (many : α → Bool) (one : α → α → Bool) (ps is : List α) (i : Nat) (p : α) (h : ps[i]? = some p) (hp : many p = true) : frontsB many one ps is (i + 1) 0 = frontsB many one ps is i 0 := by
  unfold frontsB
  rw [List.take_add_one, h, Option.toList_some, List.take_zero, parted_nil_many many one p hp]
theorem fronts_many {α : Type} (many : α → Bool) (one : α → α → Bool) (ps is : List α) (i k : Nat) (p : α) (h : ps[i]? = some p) (hp : many p = true) (hk : k < is.length) : frontsB many one ps is (i + 1) (k + 1) = (frontsB many one ps is i (k + 1) || frontsB many one ps is (i + 1) k) := by
  unfold frontsB
  have hx : is[k]? = some is[k] := List.getElem?_eq_getElem hk
  rw [List.take_add_one (l := ps), h, Option.toList_some, List.take_add_one (l := is), hx, Option.toList_some, parted_snoc_many many one p _ hp]
theorem fronts_one_zero {α : Type} (many : α → Bool) (one : α → α → Bool) (ps is : List α) (i : Nat) (p : α) (h : ps[i]? = some p) (hp : many p = false) : frontsB many one ps is (i + 1) 0 = false := by
  unfold frontsB
  rw [List.take_add_one, h, Option.toList_some, List.take_zero, parted_nil_one many one p hp]
theorem fronts_one {α : Type} (many : α → Bool) (one : α → α → Bool) (ps is : List α) (i k : Nat) (p x : α) (h : ps[i]? = some p) (hp : many p = false) (hx : is[k]? = some x) : frontsB many one ps is (i + 1) (k + 1) = (frontsB many one ps is i k && one p x) := by
  unfold frontsB
  rw [List.take_add_one (l := ps), h, Option.toList_some, List.take_add_one (l := is), hx, Option.toList_some, parted_snoc_one many one p _ hp]
theorem fronts_all {α : Type} (many : α → Bool) (one : α → α → Bool) (ps is : List α) : frontsB many one ps is ps.length is.length = partedB many one ps is := by
  unfold frontsB; rw [List.take_length, List.take_length]
end Go.Proofs.YtckpojkbcbogbaaDoor
namespace Go.Proofs.YtckpojkbcbogbaaDoor
open Go Go.RowKit Go.Shelf Go.Proofs
attribute [local go_sem] Oper.semAt_some

theorem contains_two (s : Bs) : Lib.contains s [42, 42] = true ↔ ∃ j : Nat, s[j]? = some (42 : UInt8) ∧ s[j + 1]? = some (42 : UInt8) := by
  have hocc : ∀ i, Lib.occAt s [42, 42] i = true ↔ (s[i]? = some (42 : UInt8) ∧ s[i + 1]? = some (42 : UInt8)) := fun i => by
    unfold Lib.occAt
    rw [List.isPrefixOf_iff_prefix]
    constructor
    · rintro ⟨t, ht⟩
      have h0 : (s.drop i)[0]? = some 42 := by rw [← ht]; rfl
      have h1 : (s.drop i)[1]? = some 42 := by rw [← ht]; rfl
      rw [List.getElem?_drop] at h0 h1
      exact ⟨h0, h1⟩
    · rintro ⟨h0, h1⟩
      refine ⟨s.drop (i + 2), ?_⟩
      rw [drop_some h0, drop_some h1]; rfl
  unfold Lib.contains
  rw [decide_eq_true_eq]
  rcases Lib.index_spec s [42, 42] with ⟨h1, h2⟩ | ⟨i, h1, _, h3, _⟩
  · constructor
    · intro h; omega
    · rintro ⟨j, hj⟩
      have hl := (List.getElem?_eq_some_iff.1 hj.1).1
      have := h2 j (by omega)
      rw [(hocc j).2 hj] at this; cases this
  · constructor
    · intro _; exact ⟨i, (hocc i).1 h3⟩
    · intro _; omega

/-- What has been looked at, up to k, is fit for a pattern. -/
def FitTo (s : Bs) (k : Nat) : Prop := (s.take k).all (okB [42, 63]) = true ∧ ∀ j, j + 1 < k → ¬ (s[j]? = some 42 ∧ s[j + 1]? = some 42)
theorem fit_start (s : Bs) : FitTo s 0 := ⟨rfl, fun j h => by omega⟩
theorem fit_step (s : Bs) (k : Nat) (b : UInt8) (h : FitTo s k) (hb : s[k]? = some b) (hok : okB [42, 63] b = true) (h2 : ∀ j, k = j + 1 → ¬ (s[j]? = some 42 ∧ b = 42)) : FitTo s (k + 1) := by
  refine ⟨?_, fun j hj hh => ?_⟩
  · rw [List.take_add_one, hb, Option.toList_some, List.all_append, h.1]; simp [hok]
  · by_cases e : j + 1 < k
    · exact h.2 j e hh
    · obtain rfl : k = j + 1 := by omega
      exact h2 j rfl ⟨hh.1, by rw [hb] at hh; exact Option.some.inj hh.2⟩
theorem pat_bad (s : Bs) (k : Nat) (b : UInt8) (h0 : (s == [42, 42]) = false) (hb : s[k]? = some b) (h : okB [42, 63] b = false ∨ (∃ j, k = j + 1 ∧ s[j]? = some 42 ∧ b = 42)) : patB s = false := by
  unfold patB
  rw [h0, Bool.false_or]
  rcases h with h | ⟨j, rfl, h1, rfl⟩
  · have : s.all (okB [42, 63]) = false := by
      cases e : s.all (okB [42, 63]) with
      | false => rfl
      | true => have := List.all_eq_true.1 e b (List.mem_of_getElem? hb); rw [h] at this; cases this
    unfold speltB; rw [this]; simp
  · rw [(contains_two s).2 ⟨j, h1, hb⟩]; simp
theorem pat_good (s : ByteArray) (h0 : (s.data.toList == [42, 42]) = false) (h : FitTo s.data.toList s.size) : patB s.data.toList = (decide (0 < s.size) && decide (s.size ≤ 30) && !(s.toList == [46]) && !(s.toList == [46, 46])) := by
  have hl : s.data.toList.length = s.size := Array.length_toList
  have he : s.data.toList.isEmpty = !decide (0 < s.size) := by
    rw [← hl]; cases s.data.toList <;> simp
  have ha : s.data.toList.all (okB [42, 63]) = true := by
    have := h.1; rwa [List.take_of_length_le (by omega)] at this
  have hc : Lib.contains s.data.toList [42, 42] = false := by
    cases e : Lib.contains s.data.toList [42, 42] with
    | false => rfl
    | true =>
      obtain ⟨j, hj⟩ := (contains_two _).1 e
      have := (List.getElem?_eq_some_iff.1 hj.2).1
      exact absurd hj (h.2 j (by omega))
  unfold patB speltB
  rw [h0, hc, ha, he, hl, ByteArray.toList_eq]
  cases decide (0 < s.size) <;> cases decide (s.size ≤ 30) <;> cases (s.data.toList == [46]) <;> cases (s.data.toList == [46, 46]) <;> rfl

theorem byte_tests (b : UInt8) : okB [42, 63] b = (plainB b || ((b.toNat : Int) == 42) || ((b.toNat : Int) == 63)) := by
  have h : ∀ k : UInt8, (b == k) = ((b.toNat : Int) == (k.toNat : Int)) := fun k => by
    rw [Bool.eq_iff_iff, beq_iff_eq, beq_iff_eq, ← UInt8.toNat_inj]; omega
  have h1 : ((b.toNat : Int) == 42) = (b == 42) := (h 42).symm
  have h2 : ((b.toNat : Int) == 63) = (b == 63) := (h 63).symm
  rw [h1, h2]
  unfold okB
  simp only [List.contains_cons, List.contains_nil, Bool.or_false, Bool.or_assoc]

end Go.Proofs.YtckpojkbcbogbaaDoor
