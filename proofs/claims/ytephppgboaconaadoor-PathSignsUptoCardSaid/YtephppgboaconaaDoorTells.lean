/-
  The walk of the law PathTells.
-/
import Derived.Test.YtephppgboaconaaDoorBack
import Derived.Test.YtephppgboaconaaDoorRefClean
import Derived.Test.YtephppgboaconaaDoorRefSmall
namespace Go.Proofs.YtephppgboaconaaDoor
open Go Go.RowKit Go.Shelf Go.Proofs

theorem cleanV_is (s : Bs) : ∃ (t : ByteArray) (c : Int), cleanV s = .tuple #[.string t, .int .i64 c] ∧ (c = 0 ∨ c = 4) := by
  unfold cleanV
  cases cleanB s with
  | none => exact ⟨_, _, rfl, .inr rfl⟩
  | some t => exact ⟨_, _, rfl, .inl rfl⟩
theorem clean_is (s : ByteArray) (v : Value) (w : World) (hs : s.size ≤ 1000000) (hm : MaxOk w) (h : cleanV s.data.toList = v) :
    Calls Tryd.prog 12 #[.string s] w fun e w' => e = .returned v ∧ Below w.heap.size w w' := by
  have := clean_any s w hs hm
  rwa [h] at this
theorem refclean_is (s : ByteArray) (v : Value) (w : World) (hs : s.size ≤ 1000000) (h : cleanV s.data.toList = v) :
    Calls Tryd.prog 13 #[.string s] w fun e w' => e = .returned v ∧ Below w.heap.size w w' := by
  have := refclean_any s w hs
  rwa [h] at this
theorem refright_is (s : ByteArray) (r : Bool) (w : World) (hs : s.size ≤ 1100000) (h : rightB s.data.toList = r) :
    Calls Tryd.prog 15 #[.string s] w fun e w' => e = .returned (.bool r) ∧ Below w.heap.size w w' := by
  have := refright_any s w hs
  rwa [h] at this
theorem refdir_to (s r : ByteArray) (w : World) (hs : s.size ≤ 1000000) (h : dirA s = r) :
    Calls Tryd.prog 17 #[.string s] w fun e w' => e = .returned (.string r) ∧ w' = w := by
  have := refdir_any s w hs
  rwa [h] at this
theorem refbase_to (s r : ByteArray) (w : World) (hs : s.size ≤ 1000000) (h : baseA s = r) :
    Calls Tryd.prog 19 #[.string s] w fun e w' => e = .returned (.string r) ∧ w' = w := by
  have := refbase_any s w hs
  rwa [h] at this
theorem join_is (d s r : ByteArray) (w : World) (hd : d.size ≤ 1000000) (hs : s.size ≤ 1000000) (h : mkB (join2 d.data.toList s.data.toList) = r) :
    Calls Tryd.prog 20 #[.string d, .string s] w fun e w' => e = .returned (.string r) ∧ w' = w := by
  have := join_any d s w hd hs
  rwa [h] at this
theorem refjoin_is (d s r : ByteArray) (w : World) (hd : d.size ≤ 1000000) (hs : s.size ≤ 1000000) (h : mkB (join2 d.data.toList s.data.toList) = r) :
    Calls Tryd.prog 21 #[.string d, .string s] w fun e w' => e = .returned (.string r) ∧ w' = w := by
  have := refjoin_any d s w hd hs
  rwa [h] at this
theorem refunder_to (s d : ByteArray) (r : Bool) (w : World) (hs : s.size ≤ 1000000) (hd : d.size ≤ 1000000) (h : under2 s.data.toList d.data.toList = r) :
    Calls Tryd.prog 23 #[.string s, .string d] w fun e w' => e = .returned (.bool r) ∧ w' = w := by
  have := refunder_any s d w hs hd
  rwa [h] at this

set_option maxHeartbeats 2000000 in
theorem tells_long (s d : ByteArray) (w : World) (hs : s.size ≤ 140737488351232) (hd : d.size ≤ 140737488351232) (hm : MaxOk w) (h : 400 < s.size ∨ 400 < d.size) :
    Calls Tryd.prog 3 #[.string s, .string d] w fun e w' => e = .returned (.bool true) ∧ Below w.heap.size w w' := by
  by_cases h0 : 400 < s.size
  · have h1 : (400 : Int) < (s.size : Int) := by omega
    clear h
    go_enter Tryd.func3, Tryd.ntmps3
    go_wp2_with fail
    refine (known_any _ hm).mono ?_
    rintro e w1 ⟨rfl, hb1⟩
    go_wp2_with fail
    go_ret
    exact ⟨rfl, hb1⟩
  · have h1 : (s.size : Int) ≤ 400 := by omega
    have h2 : (400 : Int) < (d.size : Int) := by omega
    clear h h0
    go_enter Tryd.func3, Tryd.ntmps3
    go_wp2_with fail
    refine (known_any _ hm).mono ?_
    rintro e w1 ⟨rfl, hb1⟩
    go_wp2_with fail
    go_ret
    exact ⟨rfl, hb1⟩

set_option maxHeartbeats 8000000 in
theorem tells_short (s d : ByteArray) (w : World) (hm : MaxOk w) (hs : s.size ≤ 400) (hd : d.size ≤ 400) :
    Calls Tryd.prog 3 #[.string s, .string d] w fun e w' => e = .returned (.bool true) ∧ Below w.heap.size w w' := by
  have h1 : (s.size : Int) ≤ 400 := by omega
  have h2 : (d.size : Int) ≤ 400 := by omega
  obtain ⟨t, c, hcv, hc⟩ := cleanV_is s.data.toList
  obtain ⟨r, hr⟩ : ∃ r, rightB s.data.toList = r := ⟨_, rfl⟩
  obtain ⟨di, hdi⟩ : ∃ r, dirA s = r := ⟨_, rfl⟩
  obtain ⟨ba, hba⟩ : ∃ r, baseA s = r := ⟨_, rfl⟩
  obtain ⟨jo, hjo⟩ : ∃ r, mkB (join2 d.data.toList s.data.toList) = r := ⟨_, rfl⟩
  obtain ⟨u, hu⟩ : ∃ r, under2 s.data.toList d.data.toList = r := ⟨_, rfl⟩
  have HC := Lib.hid hcv; clear hcv
  have HR := Lib.hid hr; clear hr
  have HD := Lib.hid hdi; clear hdi
  have HB := Lib.hid hba; clear hba
  have HJ := Lib.hid hjo; clear hjo
  have HU := Lib.hid hu; clear hu
  rcases hc with rfl | rfl <;>
  · go_enter Tryd.func3, Tryd.ntmps3
    go_wp2_with fail
    refine (clean_is s _ _ (by omega) hm HC.out).mono ?_
    rintro e w1 ⟨rfl, hb1⟩
    have hm1 := hm.below hb1
    go_wp2_with fail
    refine (refclean_is s _ _ (by omega) HC.out).mono ?_
    rintro e w2 ⟨rfl, hb2⟩
    have hm2 := hm1.below hb2
    have hb3 := hb1.trans (hb2.mono hb1.size)
    clear hb1 hb2 hm1
    go_wp2_with fail
    refine (right_to s r _ (by unfold maxLen; omega) hm2 HR.out).mono ?_
    rintro e w3 ⟨rfl, hb4⟩
    have hm3 := hm2.below hb4
    have hb5 := hb3.trans (hb4.mono hb3.size)
    clear hb3 hb4 hm2
    go_wp2_with fail
    refine (refright_is s r _ (by omega) HR.out).mono ?_
    rintro e w4 ⟨rfl, hb6⟩
    have hm4 := hm3.below hb6
    have hb7 := hb5.trans (hb6.mono hb5.size)
    clear hb5 hb6 hm3
    go_wp2_with fail
    refine (dir_to s di _ (by omega) HD.out).mono ?_
    rintro e w9 ⟨rfl, hw9⟩; have hw9 := hw9.symm; subst hw9
    go_wp2_with fail
    refine (refdir_to s di _ (by omega) HD.out).mono ?_
    rintro e w9 ⟨rfl, hw9⟩; have hw9 := hw9.symm; subst hw9
    go_wp2_with fail
    refine (base_is s ba _ (by omega) HB.out).mono ?_
    rintro e w9 ⟨rfl, hw9⟩; have hw9 := hw9.symm; subst hw9
    go_wp2_with fail
    refine (refbase_to s ba _ (by omega) HB.out).mono ?_
    rintro e w9 ⟨rfl, hw9⟩; have hw9 := hw9.symm; subst hw9
    go_wp2_with fail
    refine (join_is d s jo _ (by omega) (by omega) HJ.out).mono ?_
    rintro e w9 ⟨rfl, hw9⟩; have hw9 := hw9.symm; subst hw9
    go_wp2_with fail
    refine (refjoin_is d s jo _ (by omega) (by omega) HJ.out).mono ?_
    rintro e w9 ⟨rfl, hw9⟩; have hw9 := hw9.symm; subst hw9
    go_wp2_with fail
    refine (under_to s d u _ (by omega) (by omega) HU.out).mono ?_
    rintro e w9 ⟨rfl, hw9⟩; have hw9 := hw9.symm; subst hw9
    go_wp2_with fail
    refine (refunder_to s d u _ (by omega) (by omega) HU.out).mono ?_
    rintro e w9 ⟨rfl, hw9⟩; have hw9 := hw9.symm; subst hw9
    go_wp2_with fail
    refine (known_any _ hm4).mono ?_
    rintro e w5 ⟨rfl, hb8⟩
    have hb9 := hb7.trans (hb8.mono hb7.size)
    go_wp2_with fail
    go_ret
    exact ⟨rfl, hb9⟩

theorem tells_any (s d : ByteArray) (w : World) (hs : s.size ≤ 140737488351232) (hd : d.size ≤ 140737488351232) (hm : MaxOk w) :
    Calls Tryd.prog 3 #[.string s, .string d] w fun e w' => e = .returned (.bool true) ∧ Below w.heap.size w w' := by
  by_cases h : 400 < s.size ∨ 400 < d.size
  · exact tells_long s d w hs hd hm h
  · exact tells_short s d w hm (by omega) (by omega)
end Go.Proofs.YtephppgboaconaaDoor
