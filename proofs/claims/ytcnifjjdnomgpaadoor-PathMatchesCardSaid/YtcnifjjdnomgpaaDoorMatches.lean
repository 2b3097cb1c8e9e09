/-
  The walk of the law PathMatches.
-/
import Derived.Test.YtcnifjjdnomgpaaDoorRefMatch
import Derived.Test.YtcnifjjdnomgpaaDoorKnown
namespace Go.Proofs.YtcnifjjdnomgpaaDoor
open Go Go.RowKit Go.Shelf Go.Proofs

theorem match_is (g s : ByteArray) (r : Bool) (w : World) (hg : g.size ≤ maxLen) (hs : s.size ≤ maxLen) (hm : MaxOk w) (h : matchB g.data.toList s.data.toList = r) :
    Calls Tryd.prog 13 #[.string g, .string s] w fun e w' => e = .returned (.bool r) ∧ Below w.heap.size w w' := by
  have := match_any g s w hg hs hm
  rwa [h] at this
theorem glob_is (g : ByteArray) (r : Bool) (w : World) (hg : g.size ≤ maxLen) (hm : MaxOk w) (h : globB g.data.toList = r) :
    Calls Tryd.prog 11 #[.string g] w fun e w' => e = .returned (.bool r) ∧ Below w.heap.size w w' := by
  have := glob_any g w hg hm
  rwa [h] at this
theorem refmatch_is (g s : ByteArray) (r : Bool) (w : World) (hg : g.size ≤ 1000000) (hs : s.size ≤ 1000000) (h : matchB g.data.toList s.data.toList = r) :
    Calls Tryd.prog 14 #[.string g, .string s] w fun e w' => e = .returned (.bool r) ∧ Below w.heap.size w w' := by
  have := refmatch_any g s w hg hs
  rwa [h] at this
theorem refglob_is (g : ByteArray) (r : Bool) (w : World) (hg : g.size ≤ 1000000) (h : globB g.data.toList = r) :
    Calls Tryd.prog 12 #[.string g] w fun e w' => e = .returned (.bool r) ∧ Below w.heap.size w w' := by
  have := refglob_any g w hg
  rwa [h] at this

set_option maxHeartbeats 2000000 in
theorem matches_long (s d : ByteArray) (w : World) (hs : s.size ≤ 140737488351232) (hd : d.size ≤ 140737488351232) (hm : MaxOk w) (h : 200 < s.size ∨ 200 < d.size) :
    Calls Tryd.prog 3 #[.string s, .string d] w fun e w' => e = .returned (.bool true) ∧ Below w.heap.size w w' := by
  by_cases h0 : 200 < s.size
  · have h1 : (200 : Int) < (s.size : Int) := by omega
    clear h
    go_enter Tryd.func3, Tryd.ntmps3
    go_wp2_with fail
    refine (known_any _ hm).mono ?_
    rintro e w1 ⟨rfl, hb1⟩
    go_wp2_with fail
    go_ret
    exact ⟨rfl, hb1⟩
  · have h1 : (s.size : Int) ≤ 200 := by omega
    have h2 : (200 : Int) < (d.size : Int) := by omega
    clear h h0
    go_enter Tryd.func3, Tryd.ntmps3
    go_wp2_with fail
    refine (known_any _ hm).mono ?_
    rintro e w1 ⟨rfl, hb1⟩
    go_wp2_with fail
    go_ret
    exact ⟨rfl, hb1⟩

set_option maxHeartbeats 8000000 in
theorem matches_short (s d : ByteArray) (w : World) (hm : MaxOk w) (hs : s.size ≤ 200) (hd : d.size ≤ 200) :
    Calls Tryd.prog 3 #[.string s, .string d] w fun e w' => e = .returned (.bool true) ∧ Below w.heap.size w w' := by
  have h1 : (s.size : Int) ≤ 200 := by omega
  have h2 : (d.size : Int) ≤ 200 := by omega
  obtain ⟨r, hr⟩ : ∃ r, globB s.data.toList = r := ⟨_, rfl⟩
  obtain ⟨u, hu⟩ : ∃ r, matchB s.data.toList d.data.toList = r := ⟨_, rfl⟩
  obtain ⟨v, hv⟩ : ∃ r, matchB s.data.toList s.data.toList = r := ⟨_, rfl⟩
  have HR := Lib.hid hr; clear hr
  have HU := Lib.hid hu; clear hu
  have HV := Lib.hid hv; clear hv
  go_enter Tryd.func3, Tryd.ntmps3
  go_wp2_with fail
  refine (glob_is s r _ (by unfold maxLen; omega) hm HR.out).mono ?_
  rintro e w1 ⟨rfl, hb1⟩
  have hm1 := hm.below hb1
  go_wp2_with fail
  refine (refglob_is s r _ (by omega) HR.out).mono ?_
  rintro e w2 ⟨rfl, hb2⟩
  have hm2 := hm1.below hb2
  have hb3 := hb1.trans (hb2.mono hb1.size)
  clear hb1 hb2 hm1
  go_wp2_with fail
  refine (match_is s d u _ (by unfold maxLen; omega) (by unfold maxLen; omega) hm2 HU.out).mono ?_
  rintro e w3 ⟨rfl, hb4⟩
  have hm3 := hm2.below hb4
  have hb5 := hb3.trans (hb4.mono hb3.size)
  clear hb3 hb4 hm2
  go_wp2_with fail
  refine (refmatch_is s d u _ (by omega) (by omega) HU.out).mono ?_
  rintro e w4 ⟨rfl, hb6⟩
  have hm4 := hm3.below hb6
  have hb7 := hb5.trans (hb6.mono hb5.size)
  clear hb5 hb6 hm3
  go_wp2_with fail
  refine (match_is s s v _ (by unfold maxLen; omega) (by unfold maxLen; omega) hm4 HV.out).mono ?_
  rintro e w5 ⟨rfl, hb8⟩
  have hm5 := hm4.below hb8
  have hb9 := hb7.trans (hb8.mono hb7.size)
  clear hb7 hb8 hm4
  go_wp2_with fail
  refine (refmatch_is s s v _ (by omega) (by omega) HV.out).mono ?_
  rintro e w6 ⟨rfl, hb10⟩
  have hm6 := hm5.below hb10
  have hb11 := hb9.trans (hb10.mono hb9.size)
  clear hb9 hb10 hm5
  go_wp2_with fail
  refine (known_any _ hm6).mono ?_
  rintro e w7 ⟨rfl, hb12⟩
  have hb13 := hb11.trans (hb12.mono hb11.size)
  go_wp2_with fail
  go_ret
  exact ⟨rfl, hb13⟩

theorem matches_any (s d : ByteArray) (w : World) (hs : s.size ≤ 140737488351232) (hd : d.size ≤ 140737488351232) (hm : MaxOk w) :
    Calls Tryd.prog 3 #[.string s, .string d] w fun e w' => e = .returned (.bool true) ∧ Below w.heap.size w w' := by
  by_cases h : 200 < s.size ∨ 200 < d.size
  · exact matches_long s d w hs hd hm h
  · exact matches_short s d w hm (by omega) (by omega)
end Go.Proofs.YtcnifjjdnomgpaaDoor
