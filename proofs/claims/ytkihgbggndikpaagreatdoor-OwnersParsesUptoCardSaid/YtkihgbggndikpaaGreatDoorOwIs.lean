/-
  The contracts of what a line may be: isNothing, isNoParent, isGlob, allNamed, isPerFile, isName; slices.Equal at texts.
-/
import Derived.Test.YtkihgbggndikpaaGreatDoorOwWordsOf
import Derived.Test.YtkihgbggndikpaaGreatDoorOwNamed
import Derived.Test.YtkihgbggndikpaaGreatDoorShelf
import Derived.BigRegion
namespace Go.Proofs.YtkihgbggndikpaaGreatDoor
open Go Go.RowKit Go.Shelf Go.Proofs
attribute [local go_sem] Oper.semAt_some

def BoolPost (b : Bool) (w : World) (e : Ending) (w' : World) : Prop := e = .returned (.bool b) ∧ Below w.heap.size w w'
theorem belowQ {n : Nat} {a w : World} (h : Below n a w) (q : Nat) : Below n a (w.drewN q) := ⟨h.os, h.tape, h.output, h.size, h.block⟩
theorem mkB_inj (a b : Bs) : mkB a = mkB b ↔ a = b := ⟨fun h => by rw [← mkB_data a, h, mkB_data], fun h => by rw [h]⟩
theorem map_mkB_inj : ∀ a b : List Bs, a.map mkB = b.map mkB ↔ a = b
  | [], [] => by simp
  | [], _ :: _ => by simp
  | _ :: _, [] => by simp
  | x :: a, y :: b => by rw [List.map_cons, List.map_cons, List.cons.injEq, List.cons.injEq, mkB_inj, map_mkB_inj a b]
theorem eqtexts_any (A B : Option Addr) (c d : Nat) (l m : List Bs) (w : World) (ha : StrsAt w A l) (hb : StrsAt w B m) (hl : l.length ≤ maxLen) (hm : m.length ≤ maxLen) :
    Calls Tryz.prog 84 #[.slice A l.length c, .slice B m.length d] w fun e w' => e = .returned (.bool (decide (l = m))) ∧ ∃ q, w' = w.drewN q := by
  unfold maxLen at hl hm
  by_cases h0 : l.length = 0
  · obtain rfl : l = [] := List.eq_nil_of_length_eq_zero h0
    refine (Tryz.slices_Equal_string_empty A B c m.length d w (by omega)).mono ?_
    rintro e w' ⟨rfl, rfl⟩
    refine ⟨ret_bool ?_, 0, rfl⟩
    cases m with
    | nil => rfl
    | cons _ _ => simp
  · by_cases h1 : l.length = m.length
    · obtain ⟨g, o, rfl, hg⟩ := ha (by omega)
      obtain ⟨g2, o2, rfl, hg2⟩ := hb (by omega)
      refine (Tryz.slices_Equal_string g o l.length c g2 o2 m.length d (l.map mkB) (m.map mkB) w (by simp) (by simp) (by omega) (by omega) (fun j hj => ?_) (fun j hj => ?_)).mono ?_
      · rw [List.length_map] at hj
        rw [hg j _ (List.getElem?_eq_getElem hj), List.getD_eq_getElem?_getD, List.getElem?_map, List.getElem?_eq_getElem hj]; rfl
      · rw [List.length_map] at hj
        rw [hg2 j _ (List.getElem?_eq_getElem hj), List.getD_eq_getElem?_getD, List.getElem?_map, List.getElem?_eq_getElem hj]; rfl
      · rintro e w' ⟨rfl, hq⟩
        refine ⟨ret_bool ?_, hq⟩
        rw [List.take_of_length_le (by simp), List.take_of_length_le (by simp), Bool.eq_iff_iff, decide_eq_true_iff, decide_eq_true_iff, map_mkB_inj]
    · refine (Tryz.slices_Equal_string_lens A B l.length c m.length d w h1).mono ?_
      rintro e w' ⟨rfl, rfl⟩
      refine ⟨ret_bool (decide_eq_false fun e => h1 (by rw [e])).symm, 0, rfl⟩

/-- Words as wordsOf answers them: where they lie, none too long. -/
structure WordsAt (w : World) (A : Option Addr) (c : Nat) (l : List Bs) : Prop where
  at_ : StrsAt w A l
  cap : l.length ≤ c
  capm : c ≤ maxLen
  len : l.length ≤ 100000
  each : ∀ p ∈ l, p.length ≤ 100000
theorem WordsAt.below {w w' : World} {A : Option Addr} {c : Nat} {l : List Bs} (h : WordsAt w A c l) (hb : Below w.heap.size w w') : WordsAt w' A c l := ⟨h.at_.below hb, h.cap, h.capm, h.len, h.each⟩

set_option maxHeartbeats 1000000 in
theorem isNothing_any (A : Option Addr) (c : Nat) (l : List Bs) (w : World) (h : WordsAt w A c l) :
    Calls Tryz.prog 68 #[.slice A l.length c] w (BoolPost l.isEmpty w) := by
  have hl := h.len
  have hr : l.isEmpty = ((l.length : Int) == 0) := by
    cases l with
    | nil => rfl
    | cons x r => rw [List.isEmpty_cons, List.length_cons]; symm; rw [beq_eq_false_iff_ne]; omega
  have HR := Lib.hid hr; clear hr h
  go_enter Tryz.func68, Tryz.ntmps68
  go_wp2_with fail
  go_ret
  exact ⟨ret_bool HR.out.symm, Below.refl _ _⟩

set_option maxHeartbeats 1000000 in
theorem isNop_any (A : Option Addr) (c : Nat) (l : List Bs) (w : World) (h : WordsAt w A c l) :
    Calls Tryz.prog 70 #[.slice A l.length c] w (BoolPost (isNopL l) w) := by
  have hl := h.len
  have hb : Below w.heap.size w (w.alloc (.cells #[.string ⟨#[115, 101, 116]⟩, .string ⟨#[110, 111, 112, 97, 114, 101, 110, 116]⟩] 9)) := (Below.refl _ w).alloc (Nat.le_refl _) _
  have h2 : StrsAt (w.alloc (.cells #[.string ⟨#[115, 101, 116]⟩, .string ⟨#[110, 111, 112, 97, 114, 101, 110, 116]⟩] 9)) (some ⟨w.heap.size, 0, none⟩) [setW, nopW] := fun _ => ⟨_, _, rfl, fun i p hp => by
    have hn := World.alloc_heap_new w (.cells #[.string ⟨#[115, 101, 116]⟩, .string ⟨#[110, 111, 112, 97, 114, 101, 110, 116]⟩] 9)
    match i, hp with
    | 0, hp => cases hp; exact cell_of_row _ _ 0 _ _ _ hn
    | 1, hp => cases hp; exact cell_of_row _ _ 1 _ _ _ hn
    | i + 2, hp => simp at hp⟩
  have HE := Lib.hid (eqtexts_any A (some ⟨w.heap.size, 0, none⟩) c 2 l [setW, nopW] _ (h.at_.below hb) h2 (by unfold maxLen; omega) (by decide))
  have HB := Lib.hid hb
  clear hb h2 h
  go_enter Tryz.func70, Tryz.ntmps70
  go_wp2_with fail
  refine HE.out.mono ?_
  rintro e w' ⟨rfl, q, rfl⟩
  go_wp2_with fail
  go_ret
  exact ⟨ret_bool (by unfold isNopL; rw [Bool.eq_iff_iff]; simp), belowQ HB.out q⟩

theorem hasSlash (s : Bs) : decide (0 ≤ Lib.indexByte s 47) = s.contains 47 := by
  have h := indexByte_neg 47 s
  cases e : s.contains 47 with
  | true => rw [decide_eq_true_iff]; rw [e] at h; simp at h; omega
  | false => rw [decide_eq_false_iff_not]; have := h.2 e; omega
set_option maxHeartbeats 1000000 in
theorem isGlob_any (s : ByteArray) (w : World) (hs : s.size ≤ maxLen) (hm : MaxOk w) :
    Calls Tryz.prog 99 #[.string s] w (BoolPost (isGlobL s.data.toList) w) := by
  have HG := Lib.hid (glob_any s w hs hm)
  cases h1 : globB s.data.toList with
  | false =>
    have hr : isGlobL s.data.toList = false := by unfold isGlobL; rw [h1]; rfl
    have HR := Lib.hid hr; clear hr
    have H1 := Lib.hid h1; clear h1
    go_enter Tryz.func99, Tryz.ntmps99
    go_wp2_with fail
    refine HG.out.mono ?_
    rintro e w' ⟨rfl, hb⟩
    rw [H1.out]
    go_wp2_with fail
    go_ret
    exact ⟨ret_bool HR.out.symm, hb⟩
  | true =>
    have hr : isGlobL s.data.toList = !s.data.toList.contains 47 := by unfold isGlobL; rw [h1]; rfl
    obtain ⟨r, hrr⟩ : ∃ r, s.data.toList.contains 47 = r := ⟨_, rfl⟩
    have hsl := hasSlash s.data.toList
    rw [hrr] at hr hsl
    have HR := Lib.hid hr; clear hr
    have H1 := Lib.hid h1; clear h1
    have HS := Lib.hid hsl; clear hsl hrr
    go_enter Tryz.func99, Tryz.ntmps99
    go_wp2_with fail
    refine HG.out.mono ?_
    rintro e w1 ⟨rfl, hb⟩
    rw [H1.out]
    go_wp2_with fail
    refine (Tryz.strings_Contains_one s 47 w1).mono ?_
    rintro e w' ⟨rfl, hw⟩
    have hw := hw.symm
    subst hw
    rw [HS.out]
    go_wp2_with fail
    go_ret
    exact ⟨ret_bool HR.out.symm, hb⟩

def firstBad (l : List Bs) : Int := match l.findIdx? (fun p => !namedB p) with
  | some i => i
  | none => -1
theorem firstBad_all (l : List Bs) : decide (0 ≤ firstBad l) = !l.all namedB := by
  unfold firstBad
  cases h : l.findIdx? (fun p => !namedB p) with
  | none =>
    rw [List.findIdx?_eq_none_iff] at h
    have : l.all namedB = true := List.all_eq_true.2 fun x hx => by simpa using h x hx
    rw [this]; rfl
  | some i =>
    obtain ⟨hk, h1, _⟩ := List.findIdx?_eq_some_iff_getElem.1 h
    have : l.all namedB = false := by
      rw [Bool.eq_false_iff]; intro ha
      have := List.all_eq_true.1 ha _ (List.getElem_mem hk)
      rw [this] at h1; cases h1
    rw [this]; simp
set_option maxHeartbeats 1000000 in
theorem notNamed_any (s : ByteArray) (w : World) (hs : s.size ≤ maxLen) : Calls Tryz.prog 123 #[.string s] w fun e w' => e = .returned (.bool (!namedB s.data.toList)) ∧ w' = w := by
  have HN := Lib.hid (named_any s w hs)
  go_enter Tryz.func123, Tryz.ntmps123
  go_wp2_with fail
  refine HN.out.mono ?_
  rintro e w' ⟨rfl, rfl⟩
  go_wp2_with fail
  go_ret
  exact ⟨rfl, rfl⟩

set_option maxHeartbeats 1000000 in
theorem indexN_any (A : Option Addr) (c : Nat) (l : List Bs) (w : World) (h : WordsAt w A c l) :
    Calls Tryz.prog 145 #[.slice A l.length c, .func (.func 123) #[] #[]] w fun e w' => e = .returned (.int .i64 (firstBad l)) ∧ w' = w := by
  have hl := h.len
  have eg := enters_of (P := Tryz.prog) Tryz.func123 (by kernel_rfl) rfl
  have EG := Lib.hid eg; clear eg
  have HH := Lib.hid h; clear h
  go_enter Tryz.func145, Tryz.ntmps145
  go_wp2_with fail
  go_loop [5, 8] (fun _ s8 => ∃ k : Nat, k ≤ l.length ∧ s8 = .int .i64 k ∧ Hid (∀ j y, j < k → l[j]? = some y → namedB y = true)) (fun _ s8 => l.length - (intOf s8).toNat)
  case atStart => exact ⟨0, Nat.zero_le _, rfl, fun j y hj => absurd hj (Nat.not_lt_zero _)⟩
  case round =>
    obtain ⟨k, hk, rfl, HN⟩ := hrel
    by_cases hlt : k < l.length
    · obtain ⟨x, hx⟩ : ∃ x, l[k]? = some x := ⟨_, List.getElem?_eq_getElem hlt⟩
      obtain ⟨b, o, hA, hrow⟩ := HH.out.at_ (by omega)
      subst hA
      have c1 := hrow k x hx
      have hcall := notNamed_any (mkB x) w (by rw [mkB_size]; have := HH.out.each x (List.mem_of_getElem? hx); unfold maxLen; omega)
      rw [mkB_data] at hcall
      have HX := Lib.hid hx; clear hx hrow
      have eg := EG.out
      cases hq : namedB x with
      | false =>
        rw [hq] at hcall
        have HQ := Lib.hid hq; clear hq
        have HC := Lib.hid hcall; clear hcall
        go_wp2_with fail
        refine HC.out.mono ?_
        rintro e w' ⟨rfl, hw⟩
        have hw := hw.symm
        subst hw
        go_wp2_with fail
        go_ret
        have hf : firstBad l = k := by
          have : l.findIdx? (fun p => !namedB p) = some k := by
            rw [List.findIdx?_eq_some_iff_getElem]
            have hxx := HX.out
            obtain ⟨hk2, rfl⟩ := List.getElem?_eq_some_iff.1 hxx
            exact ⟨hk2, by rw [HQ.out]; rfl, fun j hj => by simpa using HN.out j _ hj (List.getElem?_eq_getElem (by omega))⟩
          unfold firstBad; rw [this]
        exact ⟨by rw [hf]; rfl, rfl⟩
      | true =>
        rw [hq] at hcall
        have HQ := Lib.hid hq; clear hq
        have HC := Lib.hid hcall; clear hcall
        go_wp2_with fail
        refine HC.out.mono ?_
        rintro e w' ⟨rfl, hw⟩
        have hw := hw.symm
        subst hw
        go_wp2_with fail
        go_round
        case rel =>
          refine ⟨k + 1, by omega, by go_num, fun j y hj hy => ?_⟩
          by_cases e : j = k
          · subst e
            have := HX.out.symm.trans hy
            cases this
            exact HQ.out
          · exact HN.out j y (by omega) hy
        case measure => simp [intOf]; omega
    · go_wp2_with fail
      go_ret
      have hf : firstBad l = -1 := by
        have : l.findIdx? (fun p => !namedB p) = none := by
          rw [List.findIdx?_eq_none_iff]
          intro y hy
          obtain ⟨j, hj⟩ := List.mem_iff_getElem?.1 hy
          have h1 := (List.getElem?_eq_some_iff.1 hj).1
          rw [HN.out j y (by omega) hj]; rfl
        unfold firstBad; rw [this]
      exact ⟨by rw [hf]; rfl, rfl⟩

set_option maxHeartbeats 1000000 in
theorem allNamed_any (A : Option Addr) (c : Nat) (l : List Bs) (w : World) (h : WordsAt w A c l) :
    Calls Tryz.prog 100 #[.slice A l.length c] w fun e w' => e = .returned (.bool (l.all namedB)) ∧ w' = w := by
  have HI := Lib.hid (indexN_any A c l w h)
  have hf := firstBad_all l
  have hge : (-9223372036854775808 : Int) ≤ firstBad l := by unfold firstBad; split <;> omega
  have HC : Hid (Calls Tryz.prog 122 #[.slice A l.length c, .func (.func 123) #[] #[]] w fun e w' => e = .returned (.bool (!l.all namedB)) ∧ w' = w) := by
    unfold Hid
    obtain ⟨r, hr⟩ : ∃ r, l.all namedB = r := ⟨_, rfl⟩
    rw [hr] at hf ⊢
    obtain ⟨z, hz⟩ : ∃ z, firstBad l = z := ⟨_, rfl⟩
    have HI := Lib.hid (hz ▸ HI.out)
    rw [hz] at hf
    have HF := Lib.hid hf
    clear hf hz hr hge h
    go_enter Tryz.func122, Tryz.ntmps122
    go_wp2_with fail
    refine HI.out.mono ?_
    rintro e w' ⟨rfl, rfl⟩
    go_wp2_with fail
    go_ret
    exact ⟨ret_bool HF.out, rfl⟩
  clear hf hge h HI
  go_enter Tryz.func100, Tryz.ntmps100
  go_wp2_with fail
  refine HC.out.mono ?_
  rintro e w' ⟨rfl, rfl⟩
  go_wp2_with fail
  go_ret
  exact ⟨ret_bool (by simp), rfl⟩

set_option maxHeartbeats 1000000 in
theorem isName_any (A : Option Addr) (c : Nat) (l : List Bs) (w : World) (h : WordsAt w A c l) :
    Calls Tryz.prog 75 #[.slice A l.length c] w (BoolPost (isNameL l) w) := by
  have hl := h.len
  by_cases h1 : l.length = 1
  · obtain ⟨p, rfl⟩ : ∃ p, l = [p] := by
      match l, h1 with
      | [p], _ => exact ⟨p, rfl⟩
    obtain ⟨g, o, rfl, hc⟩ := h.at_ (by simp)
    have c0 := hc 0 p rfl
    have HN := Lib.hid (named_any (mkB p) w (by rw [mkB_size]; have := h.each p (by simp); unfold maxLen; omega))
    have hr : isNameL [p] = namedB p := by unfold isNameL; simp
    have HR := Lib.hid hr; clear hr hc h
    rw [Nat.add_zero] at c0
    obtain ⟨n, hn⟩ : ∃ n, ([p] : List Bs).length = n := ⟨_, rfl⟩
    rw [hn] at hl h1 ⊢
    have g1 : ((n : Int) == 1) = true := by rw [beq_iff_eq]; omega
    have g2 : (0 : Int) < (n : Int) := by omega
    have HN1 := Lib.hid hn; clear hn h1
    go_enter Tryz.func75, Tryz.ntmps75
    go_wp2_with fail
    refine HN.out.mono ?_
    rintro e w' ⟨rfl, hw⟩
    have hw := hw.symm
    subst hw
    rw [mkB_data]
    go_wp2_with fail
    go_ret
    exact ⟨ret_bool HR.out.symm, Below.refl _ _⟩
  · have g1 : ((l.length : Int) == 1) = false := by rw [beq_eq_false_iff_ne]; omega
    have hr : isNameL l = false := by unfold isNameL; rw [decide_eq_false h1]; rfl
    have HR := Lib.hid hr; clear hr h h1
    go_enter Tryz.func75, Tryz.ntmps75
    go_wp2_with fail
    go_ret
    exact ⟨ret_bool HR.out.symm, Below.refl _ _⟩

theorem perW_eq (p : Bs) : ((mkB p).toList == [112, 101, 114, 45, 102, 105, 108, 101]) = (p == perW) := by rw [ByteArray.toList_eq, mkB_data]; rfl
set_option maxRecDepth 100000 in
set_option maxHeartbeats 4000000 in
theorem isPer_any (A : Option Addr) (c : Nat) (l : List Bs) (w : World) (h : WordsAt w A c l) (hm : MaxOk w) :
    Calls Tryz.prog 72 #[.slice A l.length c] w (BoolPost (isPerL l) w) := by
  have hl := h.len
  have hcap := h.cap
  have hcapm := h.capm
  unfold maxLen at hcapm
  by_cases h1 : 2 < l.length
  · obtain ⟨p, q, r, l2, rfl⟩ : ∃ p q r l2, l = p :: q :: r :: l2 := by
      match l, h1 with
      | p :: q :: r :: l2, _ => exact ⟨p, q, r, l2, rfl⟩
    obtain ⟨g, o, rfl, hc⟩ := h.at_ (by simp)
    have c0 := hc 0 p rfl
    have c1 := hc 1 q rfl
    rw [Nat.add_zero] at c0
    have g1 : (2 : Int) < ((p :: q :: r :: l2).length : Int) := by omega
    have hpe := perW_eq p
    cases h2 : (p == perW) with
    | false =>
      rw [h2] at hpe
      have hr : isPerL (p :: q :: r :: l2) = false := by unfold isPerL; simp only [List.getD_cons_zero]; rw [h2]; simp
      have HR := Lib.hid hr; clear hr h h1 h2 hc
      obtain ⟨n, hn⟩ : ∃ n, (p :: q :: r :: l2).length = n := ⟨_, rfl⟩
      rw [hn] at g1 hl hcap ⊢
      have HN := Lib.hid hn; clear hn
      go_enter Tryz.func72, Tryz.ntmps72
      go_wp2_with fail
      go_ret
      exact ⟨ret_bool HR.out.symm, Below.refl _ _⟩
    | true =>
      rw [h2] at hpe
      have HG := Lib.hid (isGlob_any (mkB q) w (by rw [mkB_size]; have := h.each q (by simp); unfold maxLen; omega) hm)
      have hl2 : (r :: l2).length = (p :: q :: r :: l2).length - 2 := by simp
      have hrest : WordsAt w (some ⟨g, o + 2, none⟩) (c - 2) (r :: l2) := ⟨fun _ => ⟨g, o + 2, rfl, fun i x hx => by
        have := hc (i + 2) x (by simpa using hx)
        rwa [show o + 2 + i = o + (i + 2) from by omega]⟩, by simp at hcap ⊢; omega, by unfold maxLen; omega, by simp at hl ⊢; omega, fun x hx => h.each x (by simp at hx ⊢; right; right; exact hx)⟩
      cases h3 : isGlobL q with
      | false =>
        have hr : isPerL (p :: q :: r :: l2) = false := by unfold isPerL; simp only [List.getD_cons_zero, List.getD_cons_succ]; rw [h3]; simp
        have HR := Lib.hid hr; clear hr h h1 h2 hc hrest hl2
        have H3 := Lib.hid h3; clear h3
        obtain ⟨n, hn⟩ : ∃ n, (p :: q :: r :: l2).length = n := ⟨_, rfl⟩
        rw [hn] at g1 hl hcap ⊢
        have HN := Lib.hid hn; clear hn
        go_enter Tryz.func72, Tryz.ntmps72
        go_wp2_with fail
        refine HG.out.mono ?_
        rintro e w1 ⟨rfl, hb⟩
        rw [mkB_data, H3.out]
        go_wp2_with fail
        go_ret
        exact ⟨ret_bool HR.out.symm, hb⟩
      | true =>
        have hr : isPerL (p :: q :: r :: l2) = (r :: l2).all namedB := by unfold isPerL; simp only [List.getD_cons_zero, List.getD_cons_succ, List.drop_succ_cons, List.drop_zero]; rw [h2, h3, decide_eq_true h1]; rfl
        have HR := Lib.hid hr; clear hr h h1 h2 hc
        have H3 := Lib.hid h3; clear h3
        obtain ⟨n, hn⟩ : ∃ n, (p :: q :: r :: l2).length = n := ⟨_, rfl⟩
        rw [hn] at g1 hl hcap hl2 ⊢
        have HN := Lib.hid hn; clear hn
        have HW := Lib.hid hrest; clear hrest
        have HL2 := Lib.hid hl2; clear hl2
        have e3 : c ≠ 2 := by omega
        go_enter Tryz.func72, Tryz.ntmps72
        go_wp2_with fail
        refine HG.out.mono ?_
        rintro e w1 ⟨rfl, hb⟩
        rw [mkB_data, H3.out]
        go_wp2_with fail
        have hall := allNamed_any _ _ _ w1 (HW.out.below hb)
        rw [HL2.out] at hall
        refine hall.mono ?_
        rintro e w' ⟨rfl, hw⟩
        have hw := hw.symm
        subst hw
        go_wp2_with fail
        go_ret
        exact ⟨ret_bool HR.out.symm, hb⟩
  · have g1 : ¬ (2 : Int) < (l.length : Int) := by omega
    have hr : isPerL l = false := by unfold isPerL; rw [decide_eq_false h1]; rfl
    have HR := Lib.hid hr; clear hr h h1
    go_enter Tryz.func72, Tryz.ntmps72
    go_wp2_with fail
    go_ret
    exact ⟨ret_bool HR.out.symm, Below.refl _ _⟩
end Go.Proofs.YtkihgbggndikpaaGreatDoor
