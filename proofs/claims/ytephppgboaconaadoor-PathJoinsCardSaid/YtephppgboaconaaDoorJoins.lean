/-
  The walk of the law PathJoins.
-/
import Derived.Test.YtephppgboaconaaDoorBase
import Derived.Test.YtephppgboaconaaDoorKnown
namespace Go.Proofs.YtephppgboaconaaDoor
open Go Go.RowKit Go.Shelf Go.Proofs

set_option maxHeartbeats 2000000 in
theorem joins_long (a b c : ByteArray) (w : World) (ha : a.size ≤ 140737488351232) (hb : b.size ≤ 140737488351232) (hc : c.size ≤ 140737488351232) (hm : MaxOk w) (h : 300 < a.size + b.size + c.size) :
    Calls Tryd.prog 7 #[.string a, .string b, .string c] w fun e w' => e = .returned (.bool true) ∧ Below w.heap.size w w' := by
  have h1 : (300 : Int) < (a.size : Int) + (b.size : Int) + (c.size : Int) := by omega
  go_enter Tryd.func7, Tryd.ntmps7
  go_wp2_with fail
  refine (known_any _ hm).mono ?_
  rintro e w1 ⟨rfl, hb1⟩
  go_wp2_with fail
  go_ret
  exact ⟨rfl, hb1⟩

set_option maxHeartbeats 2000000 in
theorem joins_short (a b c : ByteArray) (w : World) (hm : MaxOk w) (h : a.size + b.size + c.size ≤ 300) :
    Calls Tryd.prog 7 #[.string a, .string b, .string c] w fun e w' => e = .returned (.bool true) ∧ Below w.heap.size w w' := by
  have h1 : (a.size : Int) + (b.size : Int) + (c.size : Int) ≤ 300 := by omega
  have ea : a.data.toList.length = a.size := Array.length_toList
  have eb : b.data.toList.length = b.size := Array.length_toList
  have ec : c.data.toList.length = c.size := Array.length_toList
  obtain ⟨d, hd⟩ : ∃ d, mkB (join2 a.data.toList b.data.toList) = d := ⟨_, rfl⟩
  have dd : d.data.toList = join2 a.data.toList b.data.toList := by rw [← hd, mkB_data]
  obtain ⟨f, hf⟩ : ∃ f, mkB (join2 b.data.toList c.data.toList) = f := ⟨_, rfl⟩
  have df : f.data.toList = join2 b.data.toList c.data.toList := by rw [← hf, mkB_data]
  obtain ⟨x, hx⟩ : ∃ x, mkB (join2 d.data.toList c.data.toList) = x := ⟨_, rfl⟩
  have dx : x.data.toList = join2 d.data.toList c.data.toList := by rw [← hx, mkB_data]
  have dx2 : join2 a.data.toList f.data.toList = x.data.toList := by rw [dx, dd, df, join2_assoc]
  have ld : d.size ≤ 1000 := by have := join2_len a.data.toList b.data.toList; rw [← hd, mkB_size]; omega
  have lf : f.size ≤ 1000 := by have := join2_len b.data.toList c.data.toList; rw [← hf, mkB_size]; omega
  have D := Lib.hid dd; clear dd hd
  have F := Lib.hid df; clear df hf
  have X := Lib.hid dx; clear dx hx
  have X2 := Lib.hid dx2; clear dx2
  have EA := Lib.hid ea; clear ea
  have EB := Lib.hid eb; clear eb
  have EC := Lib.hid ec; clear ec
  by_cases ka : a.toList = []
  · have ga : a.toList.isEmpty = true := by simp [ka]
    clear ka
    by_cases kb : b.toList = []
    · have gb : b.toList.isEmpty = true := by simp [kb]
      clear kb
      go_enter Tryd.func7, Tryd.ntmps7
      go_wp2_with fail
      refine (join_to a b d _ (by omega) (by omega) D.out.symm).mono ?_
      rintro e w1 ⟨rfl, rfl⟩
      go_wp2_with fail
      refine (join_to d c x _ (by omega) (by omega) X.out.symm).mono ?_
      rintro e w1 ⟨rfl, rfl⟩
      go_wp2_with fail
      refine (join_to b c f _ (by omega) (by omega) F.out.symm).mono ?_
      rintro e w1 ⟨rfl, rfl⟩
      go_wp2_with fail
      refine (join_to a f x _ (by omega) (by omega) X2.out).mono ?_
      rintro e w1 ⟨rfl, rfl⟩
      go_wp2_with fail
      refine (join_to a ⟨#[]⟩ a _ (by omega) (by decide) (join2_nil _)).mono ?_
      rintro e w1 ⟨rfl, rfl⟩
      go_wp2_with fail
      refine (join_to ⟨#[]⟩ a a _ (by decide) (by omega) (nil_join2 _)).mono ?_
      rintro e w1 ⟨rfl, rfl⟩
      go_wp2_with fail
      refine (known_any _ hm).mono ?_
      rintro e w1 ⟨rfl, hb1⟩
      go_wp2_with fail
      go_ret
      exact ⟨rfl, hb1⟩
    · obtain ⟨r, hr⟩ : ∃ r, baseA b = r := ⟨_, rfl⟩
      have hr1 : baseL b.data.toList = r.data.toList := by rw [← hr, base_list]
      have kb' : b.data.toList ≠ [] := by rw [← ByteArray.toList_eq]; exact kb
      have hr2 : baseL d.data.toList = r.data.toList := by rw [D.out, join2_base _ _ kb', hr1]
      have R := Lib.hid hr1; clear hr1 hr
      have R2 := Lib.hid hr2; clear hr2
      have gb : b.toList.isEmpty = false := by simpa using kb
      clear kb kb'
      go_enter Tryd.func7, Tryd.ntmps7
      go_wp2_with fail
      refine (join_to a b d _ (by omega) (by omega) D.out.symm).mono ?_
      rintro e w1 ⟨rfl, rfl⟩
      go_wp2_with fail
      refine (join_to d c x _ (by omega) (by omega) X.out.symm).mono ?_
      rintro e w1 ⟨rfl, rfl⟩
      go_wp2_with fail
      refine (join_to b c f _ (by omega) (by omega) F.out.symm).mono ?_
      rintro e w1 ⟨rfl, rfl⟩
      go_wp2_with fail
      refine (join_to a f x _ (by omega) (by omega) X2.out).mono ?_
      rintro e w1 ⟨rfl, rfl⟩
      go_wp2_with fail
      refine (join_to a ⟨#[]⟩ a _ (by omega) (by decide) (join2_nil _)).mono ?_
      rintro e w1 ⟨rfl, rfl⟩
      go_wp2_with fail
      refine (join_to ⟨#[]⟩ a a _ (by decide) (by omega) (nil_join2 _)).mono ?_
      rintro e w1 ⟨rfl, rfl⟩
      go_wp2_with fail
      refine (base_to d r _ (by omega) R2.out).mono ?_
      rintro e w1 ⟨rfl, rfl⟩
      go_wp2_with fail
      refine (base_to b r _ (by omega) R.out).mono ?_
      rintro e w1 ⟨rfl, rfl⟩
      go_wp2_with fail
      refine (known_any _ hm).mono ?_
      rintro e w1 ⟨rfl, hb1⟩
      go_wp2_with fail
      go_ret
      exact ⟨rfl, hb1⟩
  · have ga : a.toList.isEmpty = false := by simpa using ka
    by_cases kb : b.toList = []
    · have gb : b.toList.isEmpty = true := by simp [kb]
      clear kb ka
      go_enter Tryd.func7, Tryd.ntmps7
      go_wp2_with fail
      refine (join_to a b d _ (by omega) (by omega) D.out.symm).mono ?_
      rintro e w1 ⟨rfl, rfl⟩
      go_wp2_with fail
      refine (join_to d c x _ (by omega) (by omega) X.out.symm).mono ?_
      rintro e w1 ⟨rfl, rfl⟩
      go_wp2_with fail
      refine (join_to b c f _ (by omega) (by omega) F.out.symm).mono ?_
      rintro e w1 ⟨rfl, rfl⟩
      go_wp2_with fail
      refine (join_to a f x _ (by omega) (by omega) X2.out).mono ?_
      rintro e w1 ⟨rfl, rfl⟩
      go_wp2_with fail
      refine (join_to a ⟨#[]⟩ a _ (by omega) (by decide) (join2_nil _)).mono ?_
      rintro e w1 ⟨rfl, rfl⟩
      go_wp2_with fail
      refine (join_to ⟨#[]⟩ a a _ (by decide) (by omega) (nil_join2 _)).mono ?_
      rintro e w1 ⟨rfl, rfl⟩
      go_wp2_with fail
      refine (known_any _ hm).mono ?_
      rintro e w1 ⟨rfl, hb1⟩
      go_wp2_with fail
      go_ret
      exact ⟨rfl, hb1⟩
    · obtain ⟨r, hr⟩ : ∃ r, baseA b = r := ⟨_, rfl⟩
      have hr1 : baseL b.data.toList = r.data.toList := by rw [← hr, base_list]
      have kb' : b.data.toList ≠ [] := by rw [← ByteArray.toList_eq]; exact kb
      have hr2 : baseL d.data.toList = r.data.toList := by rw [D.out, join2_base _ _ kb', hr1]
      have R := Lib.hid hr1; clear hr1 hr
      have R2 := Lib.hid hr2; clear hr2
      have gb : b.toList.isEmpty = false := by simpa using kb
      have ka' : a.data.toList ≠ [] := by rw [← ByteArray.toList_eq]; exact ka
      have hu : under2 d.data.toList a.data.toList = true := by rw [D.out]; exact join2_under _ _ kb' ka'
      have U := Lib.hid hu; clear hu
      clear kb kb' ka ka'
      go_enter Tryd.func7, Tryd.ntmps7
      go_wp2_with fail
      refine (join_to a b d _ (by omega) (by omega) D.out.symm).mono ?_
      rintro e w1 ⟨rfl, rfl⟩
      go_wp2_with fail
      refine (join_to d c x _ (by omega) (by omega) X.out.symm).mono ?_
      rintro e w1 ⟨rfl, rfl⟩
      go_wp2_with fail
      refine (join_to b c f _ (by omega) (by omega) F.out.symm).mono ?_
      rintro e w1 ⟨rfl, rfl⟩
      go_wp2_with fail
      refine (join_to a f x _ (by omega) (by omega) X2.out).mono ?_
      rintro e w1 ⟨rfl, rfl⟩
      go_wp2_with fail
      refine (join_to a ⟨#[]⟩ a _ (by omega) (by decide) (join2_nil _)).mono ?_
      rintro e w1 ⟨rfl, rfl⟩
      go_wp2_with fail
      refine (join_to ⟨#[]⟩ a a _ (by decide) (by omega) (nil_join2 _)).mono ?_
      rintro e w1 ⟨rfl, rfl⟩
      go_wp2_with fail
      refine (under_to d a true _ (by omega) (by omega) U.out).mono ?_
      rintro e w1 ⟨rfl, rfl⟩
      go_wp2_with fail
      refine (base_to d r _ (by omega) R2.out).mono ?_
      rintro e w1 ⟨rfl, rfl⟩
      go_wp2_with fail
      refine (base_to b r _ (by omega) R.out).mono ?_
      rintro e w1 ⟨rfl, rfl⟩
      go_wp2_with fail
      refine (known_any _ hm).mono ?_
      rintro e w1 ⟨rfl, hb1⟩
      go_wp2_with fail
      go_ret
      exact ⟨rfl, hb1⟩

theorem joins_any (a b c : ByteArray) (w : World) (ha : a.size ≤ 140737488351232) (hb : b.size ≤ 140737488351232) (hc : c.size ≤ 140737488351232) (hm : MaxOk w) :
    Calls Tryd.prog 7 #[.string a, .string b, .string c] w fun e w' => e = .returned (.bool true) ∧ Below w.heap.size w w' := by
  by_cases h : 300 < a.size + b.size + c.size
  · exact joins_long a b c w ha hb hc hm h
  · exact joins_short a b c w hm (by omega)
end Go.Proofs.YtephppgboaconaaDoor
