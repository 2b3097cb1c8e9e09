/-
  Journal: what the chapter's example fixes: known.
-/
import Derived.Test.YtojkifcclgecoaaJnOpen
import Derived.Test.YtojkifcclgecoaaJnCalm
import Derived.Test.YtojkifcclgecoaaDkKnown
import Derived.Lib.SlBytesConst
namespace Go.Proofs.Ytojkifcclgecoaa
open Go Go.RowKit Go.Shelf Go.Proofs Go.Proofs.Ytojkifcclgecoaa.Dk

def ab : Bs := [97, 98]
theorem z_now : zA.now = [] := rfl
theorem kn_open : openO (jd zA zA zA 999) = none ∧ openE (jd zA zA zA 999) = 0 ∧ openD (jd zA zA zA 999) = jd zA zA zA 999 := by
  obtain ⟨h1, h2, h3, h4⟩ := jd_open zA zA zA 999
  have e : newL [zA.now, zA.now] = none := by rw [newL_two, z_now, newStep_none (numb_few (by simp)), newStep_none (numb_few (by simp))]
  refine ⟨by rw [h1, e], h3, ?_⟩
  rw [h4, e, z_now, recL_nil, lenR_nil, List.length_nil]
  exact if_neg (by omega)
def kn1 : DDk := jd zA zA ⟨[], (numbF 0 ab).map .byte⟩ 999
def kn2 : DDk := jd zA zA (sA (numbF 0 ab)) 999
theorem kn_append : appendE (jd zA zA zA 999) 2 (numbF 0 ab) = 0 ∧ appendD (jd zA zA zA 999) 2 (numbF 0 ab) = kn1 := jd_append zA zA zA 999 (numbF 0 ab) (by rw [numbF_length, z_now]; decide)
theorem kn_sync : syncE kn1 2 = 0 ∧ syncD kn1 2 = kn2 := by
  obtain ⟨h1, h2⟩ := jd_sync zA zA ⟨[], (numbF 0 ab).map .byte⟩ 999
  refine ⟨h1, h2.trans ?_⟩
  have := now_more zA (numbF 0 ab)
  rw [z_now, List.nil_append] at this
  have e : (⟨[], (numbF 0 ab).map .byte⟩ : DAr).now = numbF 0 ab := this
  rw [e]; rfl
theorem kn_restart : kn2.restart 0 = kn2 := by unfold kn2; rw [jd_restart, keep_s]; rfl
theorem kn_open2 : openE kn2 = 0 ∧ openO kn2 = none ∧ openR kn2 = [ab] := by
  obtain ⟨h1, h2, h3, h4⟩ := jd_open zA zA (sA (numbF 0 ab)) 999
  have e : newL [zA.now, zA.now] = none := by rw [newL_two, z_now, newStep_none (numb_few (by simp)), newStep_none (numb_few (by simp))]
  refine ⟨h3, by unfold kn2; rw [h1, e], ?_⟩
  unfold kn2
  rw [h2, e, sA_now]
  have := recL_join (q := 0) (by omega) [ab] [] (by decide) (recL_nil 0)
  rw [joinR_cons, joinR_nil, List.append_nil, List.append_nil] at this
  exact this
set_option maxHeartbeats 1000000 in
theorem jsync_nil (w : World) : Calls Try.prog 16 #[.pointer none] w fun e w' => e = .returned (.int .i64 1) ∧ w' = w := by
  go_enter Try.func16, Try.ntmps16
  go_wp2_with fail
  go_ret
  exact ⟨rfl, rfl⟩

set_option maxRecDepth 100000 in
set_option maxHeartbeats 8000000 in
theorem jknown_any (w : World) : Calls Try.prog 10 #[] w fun e w' => e = .returned (.bool true) ∧ Below w.heap.size w w' := by
  have kc := fun (w : World) (C : Array Value) (n c : Nat) => Lib.run_convert_bytes_const (P := Try.prog) w 29 5 C n c Try.underlying29 Try.underlying5
  have HN := Lib.hid (new_ds w 3 999)
  rw [show (DDk.new 3 999) = jd zA zA zA 999 from jd_new 999 (by omega)] at HN
  go_enter Try.func10, Try.ntmps10
  go_wp2_with fail
  refine HN.out.mono ?_
  rintro e w1 ⟨g, rfl, who1, hD1, ht1⟩
  have HO := Lib.hid (open_any _ _ _ _ _ _ _ hD1 (by omega) (by omega) rfl kn_open.2.1)
  have HT1 := Lib.hid ht1
  clear hD1 ht1 HN
  go_wp2_with fail
  refine HO.out.mono ?_
  rintro e w2 ⟨gj, A, c, A2, c2, rows, who2, rfl, hj2, ht2, _, _, _, _⟩
  rw [kn_open.1, kn_open.2.2] at hj2
  rw [kn_open.1]
  have hj2 : JS w.heap.size who2 w2 1 g gj (jd zA zA zA 999) (0 + 1) 0 := hj2
  have HT2 := Lib.hid ((HT1.out.wider (Nat.le_refl _) (by omega) : Turn 1 28 _ _ _ _).trans ht2)
  have k2 := kc w2 #[.int .u8 97, .int .u8 98] 2 2
  have b2 : Below w2.heap.size w2 (w2.alloc (.cells #[.int .u8 97, .int .u8 98] 5 (2, 3))) := (Below.refl _ _).alloc (Nat.le_refl _) _
  have HA := Lib.hid (jappend_any (hj2.below b2) (by omega) (by omega) (dk_sl (sl_two w2 97 98 (2, 3))) (by decide))
  have HTB := Lib.hid (HT2.out.trans (Turn.below b2))
  clear hj2 ht2 b2 HO HT1 HT2
  go_wp2_with fail
  refine HA.out.mono ?_
  rintro e w3 ⟨rfl, who3, hj3, ht3⟩
  rw [show appendE (jd zA zA zA 999) 2 (numbF 0 [97, 98]) = 0 from kn_append.1]
  have hj3 : JS w.heap.size who3 w3 1 g gj (appendD (jd zA zA zA 999) 2 (numbF 0 ab)) (0 + 1 + (16 + 2)) 0 := hj3
  rw [kn_append.2] at hj3
  have HS := Lib.hid (jsync_any hj3 (by omega) (by omega))
  rw [kn_sync.1, kn_sync.2] at HS
  have HT3 := Lib.hid (HTB.out.trans ht3)
  clear hj3 ht3 HA HTB k2
  go_wp2_with fail
  refine HS.out.mono ?_
  rintro e w4 ⟨rfl, who4, hj4, ht4⟩
  have HR := Lib.hid (hj4.ds.restart (by omega) (by omega) 0 (by omega))
  rw [kn_restart] at HR
  have HT4 := Lib.hid (HT3.out.trans ht4)
  clear hj4 ht4 HS HT3
  go_wp2_with fail
  refine HR.out.mono ?_
  rintro e w5 ⟨rfl, who5, hD5, ht5⟩
  have HO2 := Lib.hid (open_any _ _ _ _ _ _ _ hD5 (by omega) (by omega) rfl kn_open2.1)
  have HT5 := Lib.hid (HT4.out.trans (ht5.wider (Nat.le_refl _) (by omega)))
  clear hD5 ht5 HR HT4
  go_wp2_with fail
  refine HO2.out.mono ?_
  rintro e w6 ⟨gj6, A6, c6, B6, d6, rows6, who6, rfl, _, ht6, _, hrz, hrm, _⟩
  rw [kn_open2.2.1]
  rw [kn_open2.2.2] at hrm
  have HT6 := Lib.hid (HT5.out.trans ht6)
  obtain ⟨x, rfl⟩ : ∃ x, rows6 = [x] := List.length_eq_one_iff.1 (by have := congrArg List.length hrm; simpa using this)
  obtain ⟨xA, xc, xb⟩ := x
  have hxb : xb = ab := by simpa using hrm
  subst hxb
  obtain ⟨gr, or, rfl, hrow⟩ := hrz.row.row (by simp)
  have cx := hrow 0 _ rfl
  have cx : w6.cell? ⟨gr, or, none⟩ = some (.slice xA 2 xc) := cx
  have r6 := fr_str w6 xA xc ab (hrz.each ⟨xA, xc, ab⟩ (List.mem_singleton.2 rfl)).sl.bytes
  have r6 : (convert 29 9 (.slice xA 2 xc)).run Try.prog w6 = .ok (.string ⟨#[97, 98]⟩) w6 := r6
  have hcap := hrz.row.cap
  have hcap : 1 ≤ d6 := hcap
  have hsl : (staO none).length = 0 := rfl
  rw [hsl]
  clear hrz hrm ht6 hrow HO2 HT5
  show _
  simp only [List.length_cons, List.length_nil, Nat.zero_add]
  go_wp2_with fail
  refine (jsync_nil _).mono ?_
  rintro e w7 ⟨rfl, hw⟩
  have hw := hw.symm
  subst hw
  go_wp2_with fail
  go_ret
  exact ⟨rfl, HT6.out.zero (by omega)⟩
end Go.Proofs.Ytojkifcclgecoaa
