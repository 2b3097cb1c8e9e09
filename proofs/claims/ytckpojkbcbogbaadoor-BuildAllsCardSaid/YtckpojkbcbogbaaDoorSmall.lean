/-
  The contracts of path.Dir, Base, Join, Under.
-/
import Derived.Test.YtckpojkbcbogbaaDoorConsists
import Derived.WalkLawsBesides
import Derived.WalkSpells
namespace Go.Proofs.YtckpojkbcbogbaaDoor
open Go Go.RowKit Go.Shelf Go.Proofs

/-- Both, a sign between. -/
def join2 (d s : Bs) : Bs := if d = [] then s else if s = [] then d else d ++ 47 :: s
theorem ret_string {a b : ByteArray} (h : a = b) : Ending.returned (.string a) = .returned (.string b) := by rw [h]
def under2 (s d : Bs) : Bool := d.isEmpty || (d ++ [47]).isPrefixOf s

set_option maxHeartbeats 1000000 in
theorem join_any (d s : ByteArray) (w : World) (hd : d.size ≤ 1000000) (hs : s.size ≤ 1000000) :
    Calls Tryd.prog 86 #[.string d, .string s] w fun e w' => e = .returned (.string (mkB (join2 d.data.toList s.data.toList))) ∧ w' = w := by
  by_cases h1 : d.toList = []
  · have g1 : d.toList.isEmpty = true := by simp [h1]
    have hr : mkB (join2 d.data.toList s.data.toList) = s := by unfold join2; rw [← ByteArray.toList_eq d, if_pos h1, data_mkB]
    have HR := Lib.hid hr; clear hr h1
    go_enter Tryd.func86, Tryd.ntmps86
    go_wp2_with fail
    go_ret
    exact ⟨ret_string HR.out.symm, rfl⟩
  · have g1 : d.toList.isEmpty = false := by simpa using h1
    by_cases h2 : s.toList = []
    · have g2 : s.toList.isEmpty = true := by simp [h2]
      have hr : mkB (join2 d.data.toList s.data.toList) = d := by unfold join2; rw [← ByteArray.toList_eq d, ← ByteArray.toList_eq s, if_neg h1, if_pos h2, ByteArray.toList_eq, data_mkB]
      have HR := Lib.hid hr; clear hr h1 h2
      go_enter Tryd.func86, Tryd.ntmps86
      go_wp2_with fail
      go_ret
      exact ⟨ret_string HR.out.symm, rfl⟩
    · have g2 : s.toList.isEmpty = false := by simpa using h2
      have hr : mkB (join2 d.data.toList s.data.toList) = d ++ ⟨#[47]⟩ ++ s := by
        unfold join2; rw [← ByteArray.toList_eq d, ← ByteArray.toList_eq s, if_neg h1, if_neg h2, ByteArray.toList_eq, ByteArray.toList_eq]
        apply ByteArray.ext
        simp [mkB, ByteArray.data_append]
      have HR := Lib.hid hr; clear hr h1 h2
      go_enter Tryd.func86, Tryd.ntmps86
      go_wp2_with fail
      go_ret
      exact ⟨ret_string HR.out.symm, rfl⟩

/-- What is behind the last slash; what is ahead of it. -/
def baseA (s : ByteArray) : ByteArray := s.extract (Lib.lastIndexByte s 47 + 1).toNat s.size
def dirA (s : ByteArray) : ByteArray := s.extract 0 (max (Lib.lastIndexByte s 47) 0).toNat

set_option maxHeartbeats 1000000 in
theorem base_any (s : ByteArray) (w : World) (hs : s.size ≤ 1000000) :
    Calls Tryd.prog 22 #[.string s] w fun e w' => e = .returned (.string (baseA s)) ∧ w' = w := by
  rcases Lib.lastIndexByte_spec s 47 with ⟨hk, _⟩ | ⟨i, hi, hk, _⟩
  · have hr : baseA s = s.extract 0 s.size := by unfold baseA; rw [hk]; rfl
    have HR := Lib.hid hr; clear hr
    have HK := Lib.hid hk; clear hk
    go_enter Tryd.func22, Tryd.ntmps22
    go_wp2_with (go_at_call 49; refine (Tryd.strings_LastIndexByte s 47 (by omega) _).mono ?_; rintro e w' ⟨rfl, rfl⟩; rw [HK.out])
    go_ret
    exact ⟨ret_string (by rw [HR.out]; simp), rfl⟩
  · have hr : baseA s = s.extract (i + 1) s.size := by unfold baseA; rw [hk]; rfl
    have HR := Lib.hid hr; clear hr
    have HK := Lib.hid hk; clear hk
    go_enter Tryd.func22, Tryd.ntmps22
    go_wp2_with (go_at_call 49; refine (Tryd.strings_LastIndexByte s 47 (by omega) _).mono ?_; rintro e w' ⟨rfl, rfl⟩; rw [HK.out])
    go_ret
    exact ⟨ret_string HR.out.symm, rfl⟩

set_option maxHeartbeats 1000000 in
theorem dir_any (s : ByteArray) (w : World) (hs : s.size ≤ 1000000) :
    Calls Tryd.prog 23 #[.string s] w fun e w' => e = .returned (.string (dirA s)) ∧ w' = w := by
  rcases Lib.lastIndexByte_spec s 47 with ⟨hk, _⟩ | ⟨i, hi, hk, _⟩
  · have hr : dirA s = s.extract 0 0 := by unfold dirA; rw [hk]; rfl
    have HR := Lib.hid hr; clear hr
    have HK := Lib.hid hk; clear hk
    go_enter Tryd.func23, Tryd.ntmps23
    go_wp2_with (go_at_call 49; refine (Tryd.strings_LastIndexByte s 47 (by omega) _).mono ?_; rintro e w' ⟨rfl, rfl⟩; rw [HK.out])
    go_ret
    exact ⟨ret_string HR.out.symm, rfl⟩
  · have hr : dirA s = s.extract 0 i := by unfold dirA; rw [hk, Int.max_eq_left (by omega)]; rfl
    have HR := Lib.hid hr; clear hr
    have HK := Lib.hid hk; clear hk
    go_enter Tryd.func23, Tryd.ntmps23
    go_wp2_with (go_at_call 49; refine (Tryd.strings_LastIndexByte s 47 (by omega) _).mono ?_; rintro e w' ⟨rfl, rfl⟩; rw [HK.out])
    go_ret
    exact ⟨ret_string HR.out.symm, rfl⟩

theorem prefix_more : ∀ (d s : Bs), (d ++ [47]).isPrefixOf s = (d.isPrefixOf s && ([47] : Bs).isPrefixOf (s.drop d.length))
  | [], s => by simp
  | a :: d, [] => by simp [List.isPrefixOf]
  | a :: d, b :: s => by
    have := prefix_more d s
    simp only [List.cons_append, List.isPrefixOf, List.length_cons, List.drop_succ_cons] at this ⊢
    rw [this, Bool.and_assoc]

set_option maxHeartbeats 1000000 in
theorem under_any (s d : ByteArray) (w : World) (_hs : s.size ≤ 1000000) (_hd : d.size ≤ 1000000) :
    Calls Tryd.prog 69 #[.string s, .string d] w fun e w' => e = .returned (.bool (under2 s.data.toList d.data.toList)) ∧ w' = w := by
  by_cases h1 : d.toList = []
  · have g1 : d.toList.isEmpty = true := by simp [h1]
    have hr : under2 s.data.toList d.data.toList = true := by unfold under2; rw [← ByteArray.toList_eq d, h1]; rfl
    have HR := Lib.hid hr; clear hr h1
    go_enter Tryd.func69, Tryd.ntmps69
    go_wp2_with fail
    go_ret
    exact ⟨ret_bool HR.out.symm, rfl⟩
  · have g1 : d.toList.isEmpty = false := by simpa using h1
    cases h2 : Lib.hasPrefix s.data.toList d.data.toList with
    | false =>
      have hr : under2 s.data.toList d.data.toList = false := by unfold under2; rw [← ByteArray.toList_eq d, g1, ByteArray.toList_eq, prefix_more]; unfold Lib.hasPrefix at h2; rw [h2]; rfl
      have HR := Lib.hid hr; clear hr h1
      have H2 := Lib.hid h2; clear h2
      go_enter Tryd.func69, Tryd.ntmps69
      go_wp2_with (go_at_call 93; refine (Tryd.strings_CutPrefix s d _).mono ?_; rintro e w' ⟨rfl, rfl⟩; rw [H2.out])
      go_ret
      exact ⟨ret_bool HR.out.symm, rfl⟩
    | true =>
      have hr : under2 s.data.toList d.data.toList = Lib.hasPrefix (mkB (Lib.trimPrefix s.data.toList d.data.toList)).data.toList [47] := by
        unfold under2; rw [← ByteArray.toList_eq d, g1, ByteArray.toList_eq, prefix_more, mkB_data]
        have h3 := h2
        unfold Lib.hasPrefix at h2 ⊢
        unfold Lib.trimPrefix
        rw [h3, h2]; rfl
      have HR := Lib.hid hr; clear hr h1
      have H2 := Lib.hid h2; clear h2
      go_enter Tryd.func69, Tryd.ntmps69
      go_wp2_with (go_at_call 93; refine (Tryd.strings_CutPrefix s d _).mono ?_; rintro e w' ⟨rfl, rfl⟩; rw [H2.out])
      refine (Tryd.strings_HasPrefix (mkB (Lib.trimPrefix s.data.toList d.data.toList)) ⟨#[47]⟩ _).mono ?_
      rintro e w' ⟨rfl, rfl⟩
      go_wp2_with fail
      go_ret
      exact ⟨ret_bool HR.out.symm, rfl⟩
end Go.Proofs.YtckpojkbcbogbaaDoor
