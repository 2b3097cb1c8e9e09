/-
  The law TreeChanges, walked.
-/
import Derived.Test.YtedcaodbcognjaaDoorTRefG
import Derived.Test.YtedcaodbcognjaaDoorTOpenD
import Derived.Test.YtedcaodbcognjaaDoorTSizes
namespace Go.Proofs.YtedcaodbcognjaaDoor
open Go Go.RowKit Go.Shelf Go.Proofs

theorem applyT_len {t : List Fl} {D : List Dl} {F : List Fl} (h : applyT t D = .ok F) : F.length ≤ 1000 := by
  unfold applyT at h
  split at h
  · cases h
  · split at h
    · cases h
    · split at h
      · next hr =>
        cases h
        exact (right_all hr).1
      · cases h
theorem diffB_le {a b : List FX} (ha : TinyX a) (hb : TinyX b) : (diffB a b).length ≤ 100000 := by
  unfold diffB
  split
  · have h := diffT_len (flsX a) (flsX b)
    rw [flsX_length, flsX_length] at h
    have := ha.len; have := hb.len; omega
  · exact Nat.zero_le _

set_option maxRecDepth 100000 in
set_option maxHeartbeats 8000000 in
theorem changes_any (a b : List FX) (l : List DX) (A B L : Option Addr) (ca cb cl : Nat) (w : World) (ha : TreeAt w A ca a) (hb : TreeAt w B cb b) (hl : DelsAt w L cl l) (za : BigX a) (zb : BigX b) (zl : BigD l) (hm : MaxOk w) :
    Calls Tryd.prog 3 #[.slice A a.length ca, .slice B b.length cb, .slice L l.length cl] w fun e w' => e = .returned (.bool true) ∧ Below w.heap.size w w' := by
  go_enter Tryd.func3, Tryd.ntmps3
  go_wp2_with fail
  refine (lawsmall_any a A ca _ (ha.below (Below.refl _ _)) za).mono ?_
  rintro e w1 ⟨rfl, hq1⟩
  have hb1 := hq1
  clear hq1
  cases sa : smallL a with
  | false =>
    clear sa
    go_wp2_with fail
    refine (lawknown_any _ (hm.below hb1)).mono ?_
    rintro e wz ⟨rfl, hz⟩
    have HZ := Lib.hid (hb1.trans (hz.mono hb1.size)); clear hz
    go_wp2_with fail
    go_ret
    exact ⟨rfl, HZ.out⟩
  | true =>
    have ta := smallL_tiny sa; clear sa
    go_wp2_with fail
    refine (lawsmall_any b B cb _ (hb.below hb1) zb).mono ?_
    rintro e w2 ⟨rfl, hq2⟩
    have hb2 := hb1.trans (hq2.mono hb1.size)
    clear hq2
    cases sb : smallL b with
    | false =>
      clear sb
      go_wp2_with fail
      refine (lawknown_any _ (hm.below hb2)).mono ?_
      rintro e wz ⟨rfl, hz⟩
      have HZ := Lib.hid (hb2.trans (hz.mono hb2.size)); clear hz
      go_wp2_with fail
      go_ret
      exact ⟨rfl, HZ.out⟩
    | true =>
      have tb := smallL_tiny sb; clear sb
      by_cases hln : 40 < l.length
      · have hn2 : (40 : Int) < (l.length : Int) := by omega
        go_wp2_with fail
        refine (lawknown_any _ (hm.below hb2)).mono ?_
        rintro e wz ⟨rfl, hz⟩
        have HZ := Lib.hid (hb2.trans (hz.mono hb2.size)); clear hz
        go_wp2_with fail
        go_ret
        exact ⟨rfl, HZ.out⟩
      · have hn2 : ¬ (40 : Int) < (l.length : Int) := by omega
        have HLD := reflongdeltas_any l L cl w2 (hl.below hb2) (by omega) zl
        go_wp2_with fail
        refine HLD.mono ?_
        rintro e w3 ⟨rfl, hq3⟩
        have hb3 := hb2.trans (hq3.mono hb2.size)
        clear HLD hq3
        by_cases hz : 3000 < longDN l
        · have hz2 : (3000 : Int) < (longDN l : Int) := by omega
          go_wp2_with fail
          refine (lawknown_any _ (hm.below hb3)).mono ?_
          rintro e wz ⟨rfl, hz⟩
          have HZ := Lib.hid (hb3.trans (hz.mono hb3.size)); clear hz
          go_wp2_with fail
          go_ret
          exact ⟨rfl, HZ.out⟩
        · have hz2 : ¬ (3000 : Int) < (longDN l : Int) := by omega
          have hsd : SmallD l := ⟨by omega, fun x hx => by have := longDN_mem hx; omega⟩
          have hla := ta.len
          have hlb := tb.len
          have HA4 := tapply_any a l A L ca cl w3 (ha.below hb3) ta.small (by omega) (hl.below hb3) hsd (hm.below hb3)
          have HR5 := fun (W : World) (h : Below w.heap.size w W) => refapply_any a l A L ca cl W (ha.below h) ta.small (by omega) (hl.below h) hsd
          cases hr : applyT (flsX a) (l.map DX.dl) with
          | error n =>
            rw [hr] at HA4 HR5
            go_wp2_with fail
            refine HA4.mono ?_
            rintro e w4 ⟨rfl, hq4⟩
            have hb4 := hb3.trans (hq4.mono hb3.size)
            clear HA4 hq4 hr
            have HR5 := HR5 w4 hb4
            go_wp2_with fail
            refine HR5.mono ?_
            rintro e w5 ⟨rfl, hq5⟩
            have hb5 := hb4.trans (hq5.mono hb4.size)
            have hS : ∀ W, Below w5.heap.size w5 W → TreeAt W none 0 [] ∧ TreeAt W none 0 [] := fun W _ => ⟨TreeAt.nil _ _ _ (Nat.zero_le _), TreeAt.nil _ _ _ (Nat.zero_le _)⟩
            clear HR5 hq5
            have HD6 := diff_any a b A B ca cb w5 (ha.below hb5) (hb.below hb5) ta.paths tb.paths (hm.below hb5)
            go_wp2_with fail
            refine HD6.mono ?_
            rintro e w6 ⟨v6, l6, rfl, hd6, e6, hq6⟩
            obtain ⟨A6, c6, rfl, hD6⟩ := hd6.dels
            have hb6 := hb5.trans (hq6.mono hb5.size)
            clear HD6 hq6 hd6
            have HD7 := refdiff_any a b A B ca cb w6 (ha.below hb6) (hb.below hb6) ta.small tb.small
            go_wp2_with fail
            refine HD7.mono ?_
            rintro e w7 ⟨A7, c7, l7, rfl, hD7, e7, hq7⟩
            have hb7 := hb6.trans (hq7.mono hb6.size)
            have hD6 := hD6.below hq7
            have n6 : l6.length ≤ 100000 := by have := congrArg List.length e6; rw [List.length_map] at this; rw [this]; exact diffB_le ta tb
            clear HD7 hq7
            have HS8 := refsamedeltas_same l6 l7 A6 A7 c6 c7 w7 hD6 hD7 (e6.trans e7.symm) n6
            go_wp2_with fail
            refine HS8.mono ?_
            rintro e w8 ⟨rfl, hq8⟩
            have hb8 := hb7.trans (hq8.mono hb7.size)
            have HS9 := refsame_any [] [] none none 0 0 w8 (TreeAt.nil _ _ _ (Nat.zero_le _)) (TreeAt.nil _ _ _ (Nat.zero_le _)) (Nat.zero_le _) (Nat.zero_le _)
            rw [decide_eq_true (rfl : flsX [] = flsX [])] at HS9
            clear HS8 hq8
            go_wp2_with fail
            refine HS9.mono ?_
            rintro e w9 ⟨rfl, hq9⟩
            have hb9 := hb8.trans (hq9.mono hb8.size)
            clear HS9 hq9
            go_wp2_with fail
            refine (lawknown_any _ (hm.below hb9)).mono ?_
            rintro e wz ⟨rfl, hz⟩
            have HZ := Lib.hid (hb9.trans (hz.mono hb9.size)); clear hz
            go_wp2_with fail
            go_ret
            exact ⟨rfl, HZ.out⟩
          | ok F =>
            rw [hr] at HA4 HR5
            go_wp2_with fail
            refine HA4.mono ?_
            rintro e w4 ⟨v4, t4, rfl, h4, f4, hq4⟩
            obtain ⟨A4, c4, rfl⟩ := h4.own.slice
            have hb4 := hb3.trans (hq4.mono hb3.size)
            have ht4 := h4.tree.2
            clear HA4 hq4
            have HR5 := HR5 w4 hb4
            go_wp2_with fail
            refine HR5.mono ?_
            rintro e w5 ⟨A5, c5, t5, rfl, ht5, f5, hq5⟩
            have hb5 := hb4.trans (hq5.mono hb4.size)
            have ht4 := ht4.below hq5
            have hF : F.length ≤ 1000 := applyT_len hr
            have l4 : t4.length ≤ 100000 := by have := congrArg List.length f4; rw [flsX_length] at this; omega
            have l5 : t5.length ≤ 100000 := by have := congrArg List.length f5; rw [flsX_length] at this; omega
            clear HR5 hq5 hr
            have HD6 := diff_any a b A B ca cb w5 (ha.below hb5) (hb.below hb5) ta.paths tb.paths (hm.below hb5)
            go_wp2_with fail
            refine HD6.mono ?_
            rintro e w6 ⟨v6, l6, rfl, hd6, e6, hq6⟩
            obtain ⟨A6, c6, rfl, hD6⟩ := hd6.dels
            have hb6 := hb5.trans (hq6.mono hb5.size)
            have ht4 := ht4.below hq6
            have ht5 := ht5.below hq6
            clear HD6 hq6 hd6
            have HD7 := refdiff_any a b A B ca cb w6 (ha.below hb6) (hb.below hb6) ta.small tb.small
            go_wp2_with fail
            refine HD7.mono ?_
            rintro e w7 ⟨A7, c7, l7, rfl, hD7, e7, hq7⟩
            have hb7 := hb6.trans (hq7.mono hb6.size)
            have hD6 := hD6.below hq7
            have ht4 := ht4.below hq7
            have ht5 := ht5.below hq7
            have n6 : l6.length ≤ 100000 := by have := congrArg List.length e6; rw [List.length_map] at this; rw [this]; exact diffB_le ta tb
            clear HD7 hq7
            have HS8 := refsamedeltas_same l6 l7 A6 A7 c6 c7 w7 hD6 hD7 (e6.trans e7.symm) n6
            go_wp2_with fail
            refine HS8.mono ?_
            rintro e w8 ⟨rfl, hq8⟩
            have hb8 := hb7.trans (hq8.mono hb7.size)
            have ht4 := ht4.below hq8
            have ht5 := ht5.below hq8
            have HS9 := refsame_any t4 t5 A4 A5 c4 c5 w8 ht4 ht5 l4 l5
            rw [decide_eq_true (f4.trans f5.symm)] at HS9
            clear HS8 hq8
            go_wp2_with fail
            refine HS9.mono ?_
            rintro e w9 ⟨rfl, hq9⟩
            have hb9 := hb8.trans (hq9.mono hb8.size)
            clear HS9 hq9
            go_wp2_with fail
            refine (lawknown_any _ (hm.below hb9)).mono ?_
            rintro e wz ⟨rfl, hz⟩
            have HZ := Lib.hid (hb9.trans (hz.mono hb9.size)); clear hz
            go_wp2_with fail
            go_ret
            exact ⟨rfl, HZ.out⟩
end Go.Proofs.YtedcaodbcognjaaDoor
