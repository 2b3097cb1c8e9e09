/-
  The contracts of the document's own answers: pattern, Glob.
-/
import Derived.Test.YtcnifjjdnomgpaaDoorRefSplit
import Derived.Test.YtcnifjjdnomgpaaDoorPartedLaws
import Derived.Test.YtcnifjjdnomgpaaDoorConsists
namespace Go.Proofs.YtcnifjjdnomgpaaDoor
open Go Go.RowKit Go.Shelf Go.Proofs
attribute [local go_sem] Oper.semAt_some

theorem contains_two (s : Bs) : Lib.contains s [42, 42] = true ↔ ∃ j : Nat, s[j]? = some (42 : UInt8) ∧ s[j + 1]? = some (42 : UInt8) := by
  have hocc : ∀ i, Lib.occAt s [42, 42] i = true ↔ (s[i]? = some (42 : UInt8) ∧ s[i + 1]? = some (42 : UInt8)) := fun i => by
    unfold Lib.occAt
    rw [List.isPrefixOf_iff_prefix]
    constructor
    · rintro ⟨t, ht⟩
      have h0 : (s.drop i)[0]? = some 42 := by rw [← ht]; rfl
      have h1 : (s.drop i)[1]? = some 42 := by rw [← ht]; rfl
      rw [List.getElem?_drop] at h0 h1
      exact ⟨h0, h1⟩
    · rintro ⟨h0, h1⟩
      refine ⟨s.drop (i + 2), ?_⟩
      rw [drop_some h0, drop_some h1]; rfl
  unfold Lib.contains
  rw [decide_eq_true_eq]
  rcases Lib.index_spec s [42, 42] with ⟨h1, h2⟩ | ⟨i, h1, _, h3, _⟩
  · constructor
    · intro h; omega
    · rintro ⟨j, hj⟩
      have hl := (List.getElem?_eq_some_iff.1 hj.1).1
      have := h2 j (by omega)
      rw [(hocc j).2 hj] at this; cases this
  · constructor
    · intro _; exact ⟨i, (hocc i).1 h3⟩
    · intro _; omega

/-- What has been looked at, up to k, is fit for a pattern. -/
def FitTo (s : Bs) (k : Nat) : Prop := (s.take k).all (okB [42, 63]) = true ∧ ∀ j, j + 1 < k → ¬ (s[j]? = some 42 ∧ s[j + 1]? = some 42)
theorem fit_start (s : Bs) : FitTo s 0 := ⟨rfl, fun j h => by omega⟩
theorem fit_step (s : Bs) (k : Nat) (b : UInt8) (h : FitTo s k) (hb : s[k]? = some b) (hok : okB [42, 63] b = true) (h2 : ∀ j, k = j + 1 → ¬ (s[j]? = some 42 ∧ b = 42)) : FitTo s (k + 1) := by
  refine ⟨?_, fun j hj hh => ?_⟩
  · rw [List.take_add_one, hb, Option.toList_some, List.all_append, h.1]; simp [hok]
  · by_cases e : j + 1 < k
    · exact h.2 j e hh
    · obtain rfl : k = j + 1 := by omega
      exact h2 j rfl ⟨hh.1, by rw [hb] at hh; exact Option.some.inj hh.2⟩
theorem pat_bad (s : Bs) (k : Nat) (b : UInt8) (h0 : (s == [42, 42]) = false) (hb : s[k]? = some b) (h : okB [42, 63] b = false ∨ (∃ j, k = j + 1 ∧ s[j]? = some 42 ∧ b = 42)) : patB s = false := by
  unfold patB
  rw [h0, Bool.false_or]
  rcases h with h | ⟨j, rfl, h1, rfl⟩
  · have : s.all (okB [42, 63]) = false := by
      cases e : s.all (okB [42, 63]) with
      | false => rfl
      | true => have := List.all_eq_true.1 e b (List.mem_of_getElem? hb); rw [h] at this; cases this
    unfold speltB; rw [this]; simp
  · rw [(contains_two s).2 ⟨j, h1, hb⟩]; simp
theorem pat_good (s : ByteArray) (h0 : (s.data.toList == [42, 42]) = false) (h : FitTo s.data.toList s.size) : patB s.data.toList = (decide (0 < s.size) && decide (s.size ≤ 30) && !(s.toList == [46]) && !(s.toList == [46, 46])) := by
  have hl : s.data.toList.length = s.size := Array.length_toList
  have he : s.data.toList.isEmpty = !decide (0 < s.size) := by
    rw [← hl]; cases s.data.toList <;> simp
  have ha : s.data.toList.all (okB [42, 63]) = true := by
    have := h.1; rwa [List.take_of_length_le (by omega)] at this
  have hc : Lib.contains s.data.toList [42, 42] = false := by
    cases e : Lib.contains s.data.toList [42, 42] with
    | false => rfl
    | true =>
      obtain ⟨j, hj⟩ := (contains_two _).1 e
      have := (List.getElem?_eq_some_iff.1 hj.2).1
      exact absurd hj (h.2 j (by omega))
  unfold patB speltB
  rw [h0, hc, ha, he, hl, ByteArray.toList_eq]
  cases decide (0 < s.size) <;> cases decide (s.size ≤ 30) <;> cases (s.data.toList == [46]) <;> cases (s.data.toList == [46, 46]) <;> rfl

theorem byte_tests (b : UInt8) : okB [42, 63] b = (plainB b || ((b.toNat : Int) == 42) || ((b.toNat : Int) == 63)) := by
  have h : ∀ k : UInt8, (b == k) = ((b.toNat : Int) == (k.toNat : Int)) := fun k => by
    rw [Bool.eq_iff_iff, beq_iff_eq, beq_iff_eq, ← UInt8.toNat_inj]; omega
  have h1 : ((b.toNat : Int) == 42) = (b == 42) := (h 42).symm
  have h2 : ((b.toNat : Int) == 63) = (b == 63) := (h 63).symm
  rw [h1, h2]
  unfold okB
  simp only [List.contains_cons, List.contains_nil, Bool.or_false, Bool.or_assoc]

set_option maxHeartbeats 4000000 in
theorem refpattern_any (s : ByteArray) (w : World) (hs : s.size ≤ 1000000) :
    Calls Tryd.prog 35 #[.string s] w fun e w' => e = .returned (.bool (patB s.data.toList)) ∧ w' = w := by
  have hl : s.data.toList.length = s.size := Array.length_toList
  by_cases hst : s.toList = [42, 42]
  · have g1 : (s.toList == [42, 42]) = true := by simp [hst]
    have r1 : patB s.data.toList = true := by unfold patB; rw [← ByteArray.toList_eq, g1]; rfl
    have R1 := Lib.hid r1; clear r1 hst
    go_enter Tryd.func35, Tryd.ntmps35
    go_wp2_with fail
    go_ret
    exact ⟨ret_bool R1.out.symm, rfl⟩
  · have g1 : (s.toList == [42, 42]) = false := by simpa using hst
    have g1' : (s.data.toList == [42, 42]) = false := by rw [← ByteArray.toList_eq]; exact g1
    obtain ⟨r, hr⟩ : ∃ r, patB s.data.toList = r := ⟨_, rfl⟩
    have HBAD := Lib.hid (fun k b h1 h2 => hr ▸ pat_bad s.data.toList k b g1' h1 h2 : ∀ k b, s.data.toList[k]? = some b → (okB [42, 63] b = false ∨ (∃ j, k = j + 1 ∧ s.data.toList[j]? = some 42 ∧ b = 42)) → r = false)
    have HGOOD := Lib.hid (fun h => hr ▸ pat_good s g1' h : FitTo s.data.toList s.size → r = (decide (0 < s.size) && decide (s.size ≤ 30) && !(s.toList == [46]) && !(s.toList == [46, 46])))
    rw [hr]
    clear hr g1' hst
    go_enter Tryd.func35, Tryd.ntmps35
    go_wp2_with fail
    go_loop [3] (fun i => ∃ k : Nat, k ≤ s.size ∧ i = .int .i64 k ∧ Hid (FitTo s.data.toList k)) (fun i => s.size - (intOf i).toNat)
    case atStart => exact ⟨0, Nat.zero_le _, rfl, fit_start _⟩
    case round =>
      obtain ⟨k, hk, rfl, hfit⟩ := hrel
      by_cases hlt : k < s.size
      · obtain ⟨b, hb⟩ : ∃ b, s[k] = b := ⟨_, rfl⟩
        have hk? : s.data.toList[k]? = some b := by
          rw [List.getElem?_eq_getElem (by omega), ← hb]; rfl
        have hbt := byte_tests b
        have hbb : ((b.toNat : Int) == 42) = true ↔ b = 42 := by
          rw [beq_iff_eq, ← UInt8.toNat_inj]; show _ ↔ _ = 42; omega
        cases hp : plainB b with
        | true =>
          have hs42 := (plain_signs b hp).1
          have t1 : ¬ ((b.toNat : Int) = 42) := fun e => by
            rw [hbb.1 (by rw [e]; rfl)] at hs42; cases hs42
          have hn := fit_step _ k b hfit.out hk? (by rw [hbt, hp]; rfl) (fun j _ h => by rw [h.2] at hs42; cases hs42)
          have HN := Lib.hid hn; clear hn hk? hbt hbb hs42
          skip
          have HP := Lib.hid hp; clear hp
          go_wp2_with (go_at_call 64; refine (refplain_byte _ _).mono ?_; rintro e w' ⟨rfl, rfl⟩; (try rw [hb]); rw [HP.out])
          all_goals exact ⟨⟨k + 1, by omega, by go_num, HN.out⟩, by simp [intOf]; omega⟩
        | false =>
          by_cases e63 : b = 63
          · have hn := fit_step _ k b hfit.out hk? (by rw [hbt, e63]; rfl) (fun j _ h => by rw [e63] at h; exact absurd h.2 (by decide))
            have hv : (b.toNat : Int) = 63 := by rw [e63]; rfl
            have HN := Lib.hid hn; clear hn hk? hbt hbb e63
            skip
            have HP := Lib.hid hp; clear hp
            go_wp2_with (go_at_call 64; refine (refplain_any 63 _ (by decide) (by decide)).mono ?_; rintro e w' ⟨rfl, rfl⟩; rw [show plainI 63 = false from rfl])
            all_goals exact ⟨⟨k + 1, by omega, by go_num, HN.out⟩, by simp [intOf]; omega⟩
          · by_cases e42 : b = 42
            · have hv : (b.toNat : Int) = 42 := by rw [e42]; rfl
              skip
              have HP := Lib.hid hp; clear hp
              cases k with
              | zero =>
                have hn := fit_step _ 0 b hfit.out hk? (by rw [hbt, e42]; rfl) (fun j h _ => by omega)
                have HN := Lib.hid hn; clear hn hk? hbt hbb e42 e63
                go_wp2_with (go_at_call 64; refine (refplain_any 42 _ (by decide) (by decide)).mono ?_; rintro e w' ⟨rfl, rfl⟩; rw [show plainI 42 = false from rfl])
                go_round
                case rel => exact ⟨1, by omega, by go_num, HN.out⟩
                case measure => simp [intOf]; omega
              | succ j =>
                obtain ⟨d, hd⟩ : ∃ d, s[j] = d := ⟨_, rfl⟩
                have hd? : s.data.toList[j]? = some d := by
                  rw [List.getElem?_eq_getElem (by omega), ← hd]; rfl
                have hdd : ((d.toNat : Int) = 42) ↔ d = 42 := by
                  rw [← UInt8.toNat_inj]; show _ ↔ _ = 42; omega
                by_cases d42 : d = 42
                · have hd2 := hdd.2 d42
                  have hbad := HBAD.out (j + 1) b hk? (.inr ⟨j, rfl, by rw [hd?, d42], e42⟩)
                  have HX := Lib.hid hbad; clear hbad hk? hbt hbb hdd hd? d42 e42 e63
                  skip
                  go_wp2_with (go_at_call 64; refine (refplain_any 42 _ (by decide) (by decide)).mono ?_; rintro e w' ⟨rfl, rfl⟩; rw [show plainI 42 = false from rfl])
                  go_ret
                  exact ⟨ret_bool HX.out.symm, rfl⟩
                · have hd2 : ¬ ((d.toNat : Int) = 42) := fun e => d42 (hdd.1 e)
                  have hn := fit_step _ (j + 1) b hfit.out hk? (by rw [hbt, e42]; rfl) (fun i h hh => by
                    obtain rfl : i = j := by omega
                    rw [hd?] at hh; exact d42 (Option.some.inj hh.1))
                  have HN := Lib.hid hn; clear hn hk? hbt hbb hdd hd? d42 e42 e63
                  go_wp2_with (go_at_call 64; refine (refplain_any 42 _ (by decide) (by decide)).mono ?_; rintro e w' ⟨rfl, rfl⟩; rw [show plainI 42 = false from rfl])
                  go_round
                  case rel => exact ⟨j + 1 + 1, by omega, by go_num, HN.out⟩
                  case measure => simp [intOf]; omega
            · have t1 : ¬ ((b.toNat : Int) = 42) := fun e => e42 (by rw [← UInt8.toNat_inj]; show _ = 42; omega)
              have t2 : ¬ ((b.toNat : Int) = 63) := fun e => e63 (by rw [← UInt8.toNat_inj]; show _ = 63; omega)
              have hbad := HBAD.out k b hk? (.inl (by rw [hbt, hp]; simp [t1, t2]))
              have HX := Lib.hid hbad; clear hbad hk? hbt hbb e42 e63
              skip
              have HP := Lib.hid hp; clear hp
              go_wp2_with (go_at_call 64; refine (refplain_byte _ _).mono ?_; rintro e w' ⟨rfl, rfl⟩; (try rw [hb]); rw [HP.out])
              go_ret
              exact ⟨ret_bool HX.out.symm, rfl⟩
      · have hk2 : k = s.size := by omega
        have HN2 := Lib.hid (HGOOD.out (by rw [← hk2]; exact hfit.out))
        clear HGOOD HBAD hfit
        by_cases h0 : (0 : Int) < (s.size : Int)
        · have e0 : decide (0 < s.size) = true := decide_eq_true (by omega)
          by_cases h1 : (s.size : Int) ≤ 30
          · have e1 : decide (s.size ≤ 30) = true := decide_eq_true (by omega)
            cases h2 : (s.toList == [46]) with
            | true =>
              have g2 : (s.toList != [46]) = false := by unfold bne; rw [h2]; rfl
              have H := Lib.hid (show r = false by rw [HN2.out, e0, e1, h2]; rfl)
              clear HN2 e0 e1
              go_wp2_with fail
              go_ret
              exact ⟨ret_bool H.out.symm, rfl⟩
            | false =>
              have g2 : (s.toList != [46]) = true := by unfold bne; rw [h2]; rfl
              cases h3 : (s.toList == [46, 46]) with
              | true =>
                have g3 : (s.toList != [46, 46]) = false := by unfold bne; rw [h3]; rfl
                have H := Lib.hid (show r = false by rw [HN2.out, e0, e1, h2, h3]; rfl)
                clear HN2 e0 e1
                go_wp2_with fail
                go_ret
                exact ⟨ret_bool H.out.symm, rfl⟩
              | false =>
                have g3 : (s.toList != [46, 46]) = true := by unfold bne; rw [h3]; rfl
                have H := Lib.hid (show r = true by rw [HN2.out, e0, e1, h2, h3]; rfl)
                clear HN2 e0 e1
                go_wp2_with fail
                go_ret
                exact ⟨ret_bool H.out.symm, rfl⟩
          · have H := Lib.hid (show r = false by rw [HN2.out, e0, decide_eq_false (by omega)]; rfl)
            clear HN2 e0
            go_wp2_with fail
            go_ret
            exact ⟨ret_bool H.out.symm, rfl⟩
        · have H := Lib.hid (show r = false by rw [HN2.out, decide_eq_false (by omega)]; rfl)
          clear HN2
          go_wp2_with fail
          go_ret
          exact ⟨ret_bool H.out.symm, rfl⟩
set_option maxHeartbeats 4000000 in
theorem refglob_any (s : ByteArray) (w : World) (hs : s.size ≤ 1000000) :
    Calls Tryd.prog 12 #[.string s] w fun e w' => e = .returned (.bool (globB s.data.toList)) ∧ Below w.heap.size w w' := by
  have hl : s.data.toList.length = s.size := Array.length_toList
  have hr : globB s.data.toList = (decide (s.size ≤ 100) && allTo patB (piecesB 47 s) (piecesB 47 s).length) := by
    rw [allTo_all]; unfold globB partsB; rw [hl]
  have hfa := allTo_false patB 47 s
  have hlen := splitL_length 47 s.data.toList
  have hsm := piecesB_small 47 s
  have hpl : (piecesB 47 s).length = (splitL 47 s.data.toList).length := by unfold piecesB; simp
  obtain ⟨r, hrr⟩ : ∃ r, globB s.data.toList = r := ⟨_, rfl⟩
  have hfa' : ∀ k, allTo patB (piecesB 47 s) k = false → r = false := fun k h => by
    rw [← hrr]; unfold globB partsB; rw [hfa k h]; simp
  rw [hrr] at hr ⊢
  obtain ⟨L, hL⟩ : ∃ L, splitL 47 s.data.toList = L := ⟨_, rfl⟩
  obtain ⟨X, hX⟩ : ∃ X, piecesB 47 s = X := ⟨_, rfl⟩
  have hLX : ∀ j x, X[j]? = some x → (strVs L)[j]? = some (Value.string x) := fun j x h => by
    rw [← hX] at h; rw [← hL]
    unfold piecesB at h
    unfold strVs strV
    rw [List.getElem?_map] at h ⊢
    cases e : (splitL 47 s.data.toList)[j]? with
    | none => rw [e] at h; cases h
    | some p => rw [e] at h; cases h; rfl
  rw [hX] at hr hfa' hpl hsm
  rw [hL] at hlen hpl
  have HR := Lib.hid hr; clear hr
  have HF := Lib.hid hfa'; clear hfa' hfa
  have HLX := Lib.hid hLX; clear hLX
  have HSM := Lib.hid hsm; clear hsm
  clear hX hrr
  go_enter Tryd.func12, Tryd.ntmps12
  go_wp2_with fail
  refine (refsplit_any s 47 _ (by omega)).mono ?_
  rintro e w1 ⟨v, rfl, hrow, hb1⟩
  rw [hL] at hrow
  have hne : L.length ≠ 0 := fun e => splitL_ne 47 s.data.toList (by rw [hL]; exact List.eq_nil_of_length_eq_zero e)
  obtain ⟨n, hn⟩ : ∃ n, L.length = n + 1 := ⟨L.length - 1, by omega⟩
  rw [hn] at hrow
  obtain ⟨g, cap, rfl⟩ := ownsRow_succ hrow
  have hcell := hrow.cells (g := g) rfl
  have hcells : ∀ j x, X[j]? = some x → w1.cell? ⟨g, j, none⟩ = some (.string x) := fun j x h => by
    have := hcell j _ (HLX.out j x h)
    unfold Addr.add at this
    split at this
    · rename_i hz; subst hz; exact this
    · simpa using this
  have HC := Lib.hid hcells; clear hcells hcell hrow
  clear hL
  go_wp2_with fail
  go_loop [4] (fun i => ∃ k : Nat, k ≤ n + 1 ∧ i = .int .i64 k ∧ Hid (allTo patB X k = true)) (fun i => n + 1 - (intOf i).toNat)
  case atStart => exact ⟨0, Nat.zero_le _, rfl, rfl⟩
  case round =>
    obtain ⟨k, hk, rfl, hall⟩ := hrel
    by_cases hlt : k < n + 1
    · have hkX : k < X.length := by omega
      obtain ⟨x, hx⟩ : ∃ x, X[k] = x := ⟨_, rfl⟩
      have hxk : X[k]? = some x := by rw [List.getElem?_eq_getElem hkX, hx]
      have hxs := HSM.out x (by rw [← hx]; exact List.getElem_mem _)
      have hcx := HC.out k x hxk
      have hsn := allTo_snoc patB X k x hxk hall.out
      have HS := Lib.hid hsn; clear hsn
      clear hx
      have HX := Lib.hid hxk; clear hxk
      cases hp : patB x.data.toList with
      | true =>
        have HP := Lib.hid hp; clear hp
        go_wp2_with (go_at_call 35; refine (refpattern_any x _ (by omega)).mono ?_; rintro e w' ⟨rfl, rfl⟩; rw [HP.out])
        go_round
        case rel => exact ⟨k + 1, by omega, by go_num, by unfold Hid; rw [HS.out]; exact HP.out⟩
        case measure => simp [intOf]; omega
      | false =>
        have HP := Lib.hid hp; clear hp
        go_wp2_with (go_at_call 35; refine (refpattern_any x _ (by omega)).mono ?_; rintro e w' ⟨rfl, rfl⟩; rw [HP.out])
        go_ret
        exact ⟨ret_bool (HF.out (k + 1) (by rw [HS.out]; exact HP.out)).symm, hb1⟩
    · have hk2 : k = X.length := by omega
      have hr2 : r = decide ((s.size : Int) ≤ 100) := by
        have := hall.out; rw [hk2] at this
        rw [HR.out, this, Bool.and_true, Bool.eq_iff_iff]; simp; omega
      have H2 := Lib.hid hr2; clear hr2
      clear HR
      go_wp2_with fail
      go_ret
      exact ⟨ret_bool H2.out.symm, hb1⟩
end Go.Proofs.YtcnifjjdnomgpaaDoor
