/-
  The walk of the law PathBack.
-/
import Derived.Test.YtephppgboaconaaDoorCleanLaws
import Derived.Test.YtephppgboaconaaDoorKnown
namespace Go.Proofs.YtephppgboaconaaDoor
open Go Go.RowKit Go.Shelf Go.Proofs

theorem dir_to (s r : ByteArray) (w : World) (hs : s.size ≤ 1000000) (h : dirA s = r) :
    Calls Tryd.prog 16 #[.string s] w fun e w' => e = .returned (.string r) ∧ w' = w := by
  have := dir_any s w hs
  rwa [h] at this
theorem base_is (s r : ByteArray) (w : World) (hs : s.size ≤ 1000000) (h : baseA s = r) :
    Calls Tryd.prog 18 #[.string s] w fun e w' => e = .returned (.string r) ∧ w' = w := by
  have := base_any s w hs
  rwa [h] at this
theorem clean_none (s : ByteArray) (w : World) (hs : s.size ≤ 1000000) (hm : MaxOk w) (h : cleanB s.data.toList = none) :
    Calls Tryd.prog 12 #[.string s] w fun e w' => e = .returned (.tuple #[.string ⟨#[]⟩, .int .i64 4]) ∧ Below w.heap.size w w' := by
  have := clean_any s w hs hm
  unfold cleanV at this
  rwa [h] at this
theorem clean_some (s t : ByteArray) (w : World) (hs : s.size ≤ 1000000) (hm : MaxOk w) (h : cleanB s.data.toList = some t.data.toList) :
    Calls Tryd.prog 12 #[.string s] w fun e w' => e = .returned (.tuple #[.string t, .int .i64 0]) ∧ Below w.heap.size w w' := by
  have := clean_any s w hs hm
  unfold cleanV at this
  rw [h] at this
  simpa [data_mkB] using this
theorem right_to (s : ByteArray) (r : Bool) (w : World) (hs : s.size ≤ maxLen) (hm : MaxOk w) (h : rightB s.data.toList = r) :
    Calls Tryd.prog 14 #[.string s] w fun e w' => e = .returned (.bool r) ∧ Below w.heap.size w w' := by
  have := right_any s w hs hm
  rwa [h] at this

set_option maxHeartbeats 2000000 in
theorem back_long (s : ByteArray) (w : World) (hs : s.size ≤ 140737488351232) (hm : MaxOk w) (h : 400 < s.size) :
    Calls Tryd.prog 5 #[.string s] w fun e w' => e = .returned (.bool true) ∧ Below w.heap.size w w' := by
  have h1 : (400 : Int) < (s.size : Int) := by omega
  go_enter Tryd.func5, Tryd.ntmps5
  go_wp2_with fail
  refine (known_any _ hm).mono ?_
  rintro e w1 ⟨rfl, hb1⟩
  go_wp2_with fail
  go_ret
  exact ⟨rfl, hb1⟩

set_option maxHeartbeats 2000000 in
theorem back_none (s : ByteArray) (w : World) (hm : MaxOk w) (h : s.size ≤ 400) (hc : cleanB s.data.toList = none) :
    Calls Tryd.prog 5 #[.string s] w fun e w' => e = .returned (.bool true) ∧ Below w.heap.size w w' := by
  have h1 : (s.size : Int) ≤ 400 := by omega
  have hr : rightB s.data.toList = false := by
    cases e : rightB s.data.toList with
    | false => rfl
    | true => rw [clean_right _ e] at hc; cases hc
  have HC := Lib.hid hc; clear hc
  have HR := Lib.hid hr; clear hr
  go_enter Tryd.func5, Tryd.ntmps5
  go_wp2_with fail
  refine (clean_none s _ (by omega) hm HC.out).mono ?_
  rintro e w1 ⟨rfl, hb1⟩
  have hm1 := hm.below hb1
  go_wp2_with fail
  refine (right_to s false _ (by unfold maxLen; omega) hm1 HR.out).mono ?_
  rintro e w2 ⟨rfl, hb2⟩
  have hm2 := hm1.below hb2
  have hb3 := hb1.trans (hb2.mono hb1.size)
  go_wp2_with fail
  refine (known_any _ hm2).mono ?_
  rintro e w3 ⟨rfl, hb4⟩
  have hb5 := hb3.trans (hb4.mono hb3.size)
  go_wp2_with fail
  go_ret
  exact ⟨rfl, hb5⟩

set_option maxHeartbeats 4000000 in
theorem back_some (s t : ByteArray) (w : World) (hm : MaxOk w) (h : s.size ≤ 400) (hc : cleanB s.data.toList = some t.data.toList) :
    Calls Tryd.prog 5 #[.string s] w fun e w' => e = .returned (.bool true) ∧ Below w.heap.size w w' := by
  have h1 : (s.size : Int) ≤ 400 := by omega
  have hr := clean_is_right _ _ hc
  have hl : t.size ≤ 100 := by
    have := (right_names _ hr).1
    rwa [Array.length_toList] at this
  obtain ⟨hj, hu, _⟩ := right_dir t hr
  have hcc := clean_right _ hr
  have hround := clean_round _ hr
  have hself := under_self _ (right_ne _ hr)
  obtain ⟨x, hx⟩ : ∃ x : ByteArray, (⟨#[46, 47]⟩ : ByteArray) ++ t ++ ⟨#[47, 47, 120, 47, 46, 46]⟩ = x := ⟨_, rfl⟩
  have hxd : cleanB x.data.toList = some t.data.toList := by
    rw [← hx]; simp only [ByteArray.data_append, Array.toList_append]
    exact hround
  have hxs : x.size ≤ 1000 := by
    rw [← hx]; simp only [ByteArray.size_append]
    show 2 + t.size + 6 ≤ 1000; omega
  have hds : (dirA t).size ≤ 100 := by unfold dirA; simp only [ByteArray.size_extract]; omega
  have hbs : (baseA t).size ≤ 100 := by unfold baseA; simp only [ByteArray.size_extract]; omega
  obtain ⟨d, hd⟩ : ∃ d, dirA t = d := ⟨_, rfl⟩
  obtain ⟨b, hb⟩ : ∃ b, baseA t = b := ⟨_, rfl⟩
  rw [hd] at hj hu hds
  rw [hb] at hj hbs
  have HC := Lib.hid hc; clear hc
  have HR := Lib.hid hr; clear hr
  have HJ := Lib.hid hj; clear hj
  have HU := Lib.hid hu; clear hu
  have HCC := Lib.hid hcc; clear hcc hround
  have HS := Lib.hid hself; clear hself
  have HX := Lib.hid hx; clear hx
  have HXD := Lib.hid hxd; clear hxd
  have HD := Lib.hid hd; clear hd
  have HB := Lib.hid hb; clear hb
  go_enter Tryd.func5, Tryd.ntmps5
  go_wp2_with fail
  refine (clean_some s t _ (by omega) hm HC.out).mono ?_
  rintro e w1 ⟨rfl, hb1⟩
  have hm1 := hm.below hb1
  go_wp2_with fail
  refine (clean_some t t _ (by omega) hm1 HCC.out).mono ?_
  rintro e w2 ⟨rfl, hb2⟩
  have hm2 := hm1.below hb2
  have hb3 := hb1.trans (hb2.mono hb1.size)
  clear hb1 hb2 hm1
  go_wp2_with fail
  rw [HX.out]
  refine (clean_some x t _ (by omega) hm2 HXD.out).mono ?_
  rintro e w3 ⟨rfl, hb4⟩
  have hm3 := hm2.below hb4
  have hb5 := hb3.trans (hb4.mono hb3.size)
  clear hb3 hb4 hm2
  go_wp2_with fail
  refine (right_to t true _ (by unfold maxLen; omega) hm3 HR.out).mono ?_
  rintro e w4 ⟨rfl, hb6⟩
  have hm4 := hm3.below hb6
  have hb7 := hb5.trans (hb6.mono hb5.size)
  clear hb5 hb6 hm3
  go_wp2_with fail
  refine (dir_to t d _ (by omega) HD.out).mono ?_
  rintro e w5 ⟨rfl, rfl⟩
  go_wp2_with fail
  refine (base_is t b _ (by omega) HB.out).mono ?_
  rintro e w5 ⟨rfl, rfl⟩
  go_wp2_with fail
  refine (join_to d b t _ (by omega) (by omega) HJ.out).mono ?_
  rintro e w5 ⟨rfl, rfl⟩
  go_wp2_with fail
  refine (dir_to t d _ (by omega) HD.out).mono ?_
  rintro e w5 ⟨rfl, rfl⟩
  go_wp2_with fail
  refine (under_to t d true _ (by omega) (by omega) HU.out).mono ?_
  rintro e w5 ⟨rfl, rfl⟩
  go_wp2_with fail
  refine (under_to t t false _ (by omega) (by omega) HS.out).mono ?_
  rintro e w5 ⟨rfl, rfl⟩
  go_wp2_with fail
  refine (known_any _ hm4).mono ?_
  rintro e w6 ⟨rfl, hb8⟩
  have hb9 := hb7.trans (hb8.mono hb7.size)
  go_wp2_with fail
  go_ret
  exact ⟨rfl, hb9⟩

theorem back_any (s : ByteArray) (w : World) (hs : s.size ≤ 140737488351232) (hm : MaxOk w) :
    Calls Tryd.prog 5 #[.string s] w fun e w' => e = .returned (.bool true) ∧ Below w.heap.size w w' := by
  by_cases h : 400 < s.size
  · exact back_long s w hs hm h
  · cases hc : cleanB s.data.toList with
    | none => exact back_none s w hm (by omega) hc
    | some t => exact back_some s (mkB t) w hm (by omega) (by rw [hc, mkB_data])
end Go.Proofs.YtephppgboaconaaDoor
