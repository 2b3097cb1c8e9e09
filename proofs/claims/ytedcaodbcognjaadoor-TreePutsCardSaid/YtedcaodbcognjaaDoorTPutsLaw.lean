/-
  The law TreePuts, walked.
-/
import Derived.Test.YtedcaodbcognjaaDoorTSizes
import Derived.Test.YtedcaodbcognjaaDoorTDels
namespace Go.Proofs.YtedcaodbcognjaaDoor
open Go Go.RowKit Go.Shelf Go.Proofs

set_option maxRecDepth 100000 in
set_option maxHeartbeats 8000000 in
theorem putslaw_any (t : List FX) (f : FX) (s : ByteArray) (A : Option Addr) (ca : Nat) (w : World) (ht : TreeAt w A ca t) (zt : BigX t) (hf : FileOk w f) (hs : s.size ≤ 281474976710656) (hm : MaxOk w) :
    Calls Tryd.prog 5 #[.slice A t.length ca, .agg #[.string f.p, .slice f.A f.b.length f.c], .string s] w fun e w' => e = .returned (.bool true) ∧ Below w.heap.size w w' := by
  obtain ⟨fb, _, _, fp, fl⟩ := hf
  unfold reachBytes at fp fl
  go_enter Tryd.func5, Tryd.ntmps5
  go_wp2_with fail
  obtain ⟨W, hW⟩ : ∃ W, w.alloc (.cells #[.string f.p, .slice f.A f.b.length f.c] 41) = W := ⟨_, rfl⟩
  have hb0 : Below w.heap.size w W := by rw [← hW]; exact below_box _ _
  have xf0 : BoxF W w.heap.size f := by rw [← hW]; exact BoxF.new w f _
  rw [hW]
  clear hW
  refine (lawsmall_any t A ca _ (ht.below hb0) zt).mono ?_
  rintro e w1 ⟨rfl, hq1⟩
  have hb1 := hb0.trans (hq1.mono hb0.size)
  have xf1 := xf0.below hq1
  clear hq1
  have kf0 := xf1.c0
  have kf1 := xf1.c1
  have s1 : IntKind.i64.wrap ((f.p.size : Int) + (f.b.length : Int)) = (f.p.size : Int) + (f.b.length : Int) := IntWalk.i64_in _ (by omega)
  have s2 : IntKind.i64.wrap ((f.p.size : Int) + (f.b.length : Int) + (s.size : Int)) = (f.p.size : Int) + (f.b.length : Int) + (s.size : Int) := IntWalk.i64_in _ (by omega)
  cases sa : smallL t with
  | false =>
    clear sa
    go_wp2_with fail
    refine (lawknown_any _ (hm.below hb1)).mono ?_
    rintro e wz ⟨rfl, hz⟩
    have HZ := Lib.hid (hb1.trans (hz.mono hb1.size)); clear hz
    go_wp2_with fail
    go_ret
    exact ⟨rfl, HZ.out⟩
  | true =>
    have tt := (smallL_tiny sa)
    clear sa
    by_cases hz : 500 < f.p.size + f.b.length + s.size
    · have hz2 : (500 : Int) < (f.p.size : Int) + (f.b.length : Int) + (s.size : Int) := by omega
      go_wp2_with fail
      refine (lawknown_any _ (hm.below hb1)).mono ?_
      rintro e wz ⟨rfl, hz⟩
      have HZ := Lib.hid (hb1.trans (hz.mono hb1.size)); clear hz
      go_wp2_with fail
      go_ret
      exact ⟨rfl, HZ.out⟩
    · have hz2 : ¬ (500 : Int) < (f.p.size : Int) + (f.b.length : Int) + (s.size : Int) := by omega
      have st : SizeX 40 3000 t := tt.sized
      have htl := st.len
      have hfp : f.p.size ≤ 3000 := by omega
      have hfb : f.b.length ≤ 3000 := by omega
      have HP2 := tput_any t A ca f w1 (ht.below hb1) (st.small (by omega) (by omega)) (by omega) (fb.below hb1) (by omega)
      go_wp2_with fail
      refine HP2.mono ?_
      rintro e w2 ⟨v2, l2, rfl, h2, f2, hq2⟩
      obtain ⟨A2, c2, rfl⟩ := h2.own.slice
      have hb2 := hb1.trans (hq2.mono hb1.size)
      have xf2 := xf1.below hq2
      have z2 := SizeX.of_put f2 st hfp hfb
      have hl2 := z2.len
      have kf0 := xf2.c0
      have kf1 := xf2.c1
      have HP3 := tdrop_any l2 A2 c2 f.p w2 h2.tree.2 (z2.small (by omega) (by omega))
      clear HP2 hq2 hz hz2 s1 s2 fp fl
      go_wp2_with fail
      refine HP3.mono ?_
      rintro e w3 ⟨v3, l3, rfl, h3, f3, hq3⟩
      obtain ⟨A3, c3, rfl⟩ := h3.own.slice
      have hb3 := hb2.trans (hq3.mono hb2.size)
      have xf3 := xf2.below hq3
      have z3 := SizeX.of_drop f3 z2
      have hl3 := z3.len
      have h2 := h2.below hq3
      have kf0 := xf3.c0
      have kf1 := xf3.c1
      have HG4 := tget_any l2 A2 c2 f.p w3 h2.tree.2 (z2.small (by omega) (by omega))
      rw [show getT (flsX l2) f.p.data.toList = some f.b from by rw [f2]; exact get_put (flsX t) f.fl] at HG4
      have F3 : flsX l3 = dropT (flsX t) f.p.data.toList := by rw [f3, f2]; exact drop_put (flsX t) f.fl
      clear HP3 hq3 f3
      go_wp2_with fail
      refine HG4.mono ?_
      rintro e w4 ⟨A4, c4, rfl, b4, hq4⟩
      have hb4 := hb3.trans (hq4.mono hb3.size)
      have xf4 := xf3.below hq4
      have h2 := h2.below hq4
      have h3 := h3.below hq4
      have kf0 := xf4.c0
      have kf1 := xf4.c1
      have HG5 := tget_any l3 A3 c3 f.p w4 h3.tree.2 (z3.small (by omega) (by omega))
      rw [show getT (flsX l3) f.p.data.toList = none from by rw [F3]; exact get_none (hasT_drop_self _ _)] at HG5
      clear HG4 hq4
      go_wp2_with fail
      refine HG5.mono ?_
      rintro e w5 ⟨rfl, hq5⟩
      have hb5 := hb4.trans (hq5.mono hb4.size)
      have xf5 := xf4.below hq5
      have h2 := h2.below hq5
      have h3 := h3.below hq5
      have b4 := b4.below hq5
      have kf0 := xf5.c0
      have kf1 := xf5.c1
      have HG6 := tget_any t A ca s w5 (ht.below hb5) (st.small (by omega) (by omega))
      clear HG5 hq5
      cases he : (s.toList == f.p.toList) with
      | true =>
        have hu : getT (flsX l2) s.data.toList = some f.b := by rw [str_eq_of he, f2]; exact get_put (flsX t) f.fl
        cases hr : getT (flsX t) s.data.toList with
        | none =>
          rw [hr] at HG6
          go_wp2_with fail
          refine HG6.mono ?_
          rintro e w6 ⟨rfl, hq6⟩
          have hb6 := hb5.trans (hq6.mono hb5.size)
          have xf6 := xf5.below hq6
          have h2 := h2.below hq6
          have h3 := h3.below hq6
          have b4 := b4.below hq6
          have kf0 := xf6.c0
          have kf1 := xf6.c1
          have HG7 := tget_any l2 A2 c2 s w6 h2.tree.2 (z2.small (by omega) (by omega))
          rw [hu] at HG7
          clear HG6 hq6 hu hr
          go_wp2_with fail
          refine HG7.mono ?_
          rintro e w7 ⟨A7, c7, rfl, b7, hq7⟩
          have hb7 := hb6.trans (hq7.mono hb6.size)
          have xf7 := xf6.below hq7
          have h3 := h3.below hq7
          have b4 := b4.below hq7
          have kf0 := xf7.c0
          have kf1 := xf7.c1
          have HB8 := samebytes_any f.b f.b A4 f.A c4 f.c w7 b4.at_ (fb.below hb7)
          rw [beq_self_eq_true] at HB8
          clear HG7 hq7
          go_wp2_with fail
          refine HB8.mono ?_
          rintro e w8 ⟨rfl, hq8⟩
          have hb8 := hb7.trans (hq8.mono hb7.size)
          have xf8 := xf7.below hq8
          have h3 := h3.below hq8
          have b7 := b7.below hq8
          have kf0 := xf8.c0
          have kf1 := xf8.c1
          clear HB8
          have HD := tdrop_any t A ca f.p w8 (ht.below hb8) (st.small (by omega) (by omega))
          go_wp2_with fail
          refine HD.mono ?_
          rintro e w10 ⟨v10, l10, rfl, h10, f10, hq10⟩
          obtain ⟨A10, c10, rfl⟩ := h10.own.slice
          have hb10 := hb8.trans (hq10.mono hb8.size)
          have h3 := h3.below hq10
          have hl10 := (SizeX.of_drop f10 st).len
          have HS := same_any l3 l10 A3 A10 c3 c10 w10 (by omega) (by omega) h3.tree.2 h10.tree.2
          rw [decide_eq_true (F3.trans f10.symm)] at HS
          clear HD hq10
          go_wp2_with fail
          refine HS.mono ?_
          rintro e w11 ⟨rfl, hq11⟩
          have hb11 := hb10.trans (hq11.mono hb10.size)
          clear HS hq11
          have HR := tright_any t A ca w11 (ht.below hb11) tt.paths (hm.below hb11)
          cases rt : rightT (flsX t) with
          | false =>
            rw [rt] at HR
            go_wp2_with fail
            refine HR.mono ?_
            rintro e w12 ⟨rfl, hq12⟩
            have hb12 := hb11.trans (hq12.mono hb11.size)
            go_wp2_with fail
            refine (lawknown_any _ (hm.below hb12)).mono ?_
            rintro e wz ⟨rfl, hz⟩
            have HZ := Lib.hid (hb12.trans (hz.mono hb12.size)); clear hz
            go_wp2_with fail
            go_ret
            exact ⟨rfl, HZ.out⟩
          | true =>
            rw [rt] at HR
            go_wp2_with fail
            refine HR.mono ?_
            rintro e w12 ⟨rfl, hq12⟩
            have hb12 := hb11.trans (hq12.mono hb11.size)
            have HD13 := tdrop_any t A ca s w12 (ht.below hb12) (st.small (by omega) (by omega))
            clear HR
            go_wp2_with fail
            refine HD13.mono ?_
            rintro e w13 ⟨v13, l13, rfl, h13, f13, hq13⟩
            obtain ⟨A13, c13, rfl⟩ := h13.own.slice
            have hb13 := hb12.trans (hq13.mono hb12.size)
            have z13 := SizeX.of_drop f13 st
            have HR14 := tright_any l13 A13 c13 w13 h13.tree.2 (fun x hx => by have := (z13.each x hx).1; omega) (hm.below hb13)
            rw [show rightT (flsX l13) = true from by rw [f13]; exact right_drop _ rt] at HR14
            clear HD13
            go_wp2_with fail
            refine HR14.mono ?_
            rintro e w14 ⟨rfl, hq14⟩
            have hb14 := hb13.trans (hq14.mono hb13.size)
            go_wp2_with fail
            refine (lawknown_any _ (hm.below hb14)).mono ?_
            rintro e wz ⟨rfl, hz⟩
            have HZ := Lib.hid (hb14.trans (hz.mono hb14.size)); clear hz
            go_wp2_with fail
            go_ret
            exact ⟨rfl, HZ.out⟩
        | some b =>
          rw [hr] at HG6
          go_wp2_with fail
          refine HG6.mono ?_
          rintro e w6 ⟨A6, c6, rfl, b6, hq6⟩
          have hb6 := hb5.trans (hq6.mono hb5.size)
          have xf6 := xf5.below hq6
          have h2 := h2.below hq6
          have h3 := h3.below hq6
          have b4 := b4.below hq6
          have kf0 := xf6.c0
          have kf1 := xf6.c1
          have HG7 := tget_any l2 A2 c2 s w6 h2.tree.2 (z2.small (by omega) (by omega))
          rw [hu] at HG7
          clear HG6 hq6 hu hr
          go_wp2_with fail
          refine HG7.mono ?_
          rintro e w7 ⟨A7, c7, rfl, b7, hq7⟩
          have hb7 := hb6.trans (hq7.mono hb6.size)
          have xf7 := xf6.below hq7
          have h3 := h3.below hq7
          have b4 := b4.below hq7
          have b6 := b6.below hq7
          have kf0 := xf7.c0
          have kf1 := xf7.c1
          have HB8 := samebytes_any f.b f.b A4 f.A c4 f.c w7 b4.at_ (fb.below hb7)
          rw [beq_self_eq_true] at HB8
          clear HG7 hq7
          go_wp2_with fail
          refine HB8.mono ?_
          rintro e w8 ⟨rfl, hq8⟩
          have hb8 := hb7.trans (hq8.mono hb7.size)
          have xf8 := xf7.below hq8
          have h3 := h3.below hq8
          have b6 := b6.below hq8
          have b7 := b7.below hq8
          have kf0 := xf8.c0
          have kf1 := xf8.c1
          clear HB8
          have HD := tdrop_any t A ca f.p w8 (ht.below hb8) (st.small (by omega) (by omega))
          go_wp2_with fail
          refine HD.mono ?_
          rintro e w10 ⟨v10, l10, rfl, h10, f10, hq10⟩
          obtain ⟨A10, c10, rfl⟩ := h10.own.slice
          have hb10 := hb8.trans (hq10.mono hb8.size)
          have h3 := h3.below hq10
          have hl10 := (SizeX.of_drop f10 st).len
          have HS := same_any l3 l10 A3 A10 c3 c10 w10 (by omega) (by omega) h3.tree.2 h10.tree.2
          rw [decide_eq_true (F3.trans f10.symm)] at HS
          clear HD hq10
          go_wp2_with fail
          refine HS.mono ?_
          rintro e w11 ⟨rfl, hq11⟩
          have hb11 := hb10.trans (hq11.mono hb10.size)
          clear HS hq11
          have HR := tright_any t A ca w11 (ht.below hb11) tt.paths (hm.below hb11)
          cases rt : rightT (flsX t) with
          | false =>
            rw [rt] at HR
            go_wp2_with fail
            refine HR.mono ?_
            rintro e w12 ⟨rfl, hq12⟩
            have hb12 := hb11.trans (hq12.mono hb11.size)
            go_wp2_with fail
            refine (lawknown_any _ (hm.below hb12)).mono ?_
            rintro e wz ⟨rfl, hz⟩
            have HZ := Lib.hid (hb12.trans (hz.mono hb12.size)); clear hz
            go_wp2_with fail
            go_ret
            exact ⟨rfl, HZ.out⟩
          | true =>
            rw [rt] at HR
            go_wp2_with fail
            refine HR.mono ?_
            rintro e w12 ⟨rfl, hq12⟩
            have hb12 := hb11.trans (hq12.mono hb11.size)
            have HD13 := tdrop_any t A ca s w12 (ht.below hb12) (st.small (by omega) (by omega))
            clear HR
            go_wp2_with fail
            refine HD13.mono ?_
            rintro e w13 ⟨v13, l13, rfl, h13, f13, hq13⟩
            obtain ⟨A13, c13, rfl⟩ := h13.own.slice
            have hb13 := hb12.trans (hq13.mono hb12.size)
            have z13 := SizeX.of_drop f13 st
            have HR14 := tright_any l13 A13 c13 w13 h13.tree.2 (fun x hx => by have := (z13.each x hx).1; omega) (hm.below hb13)
            rw [show rightT (flsX l13) = true from by rw [f13]; exact right_drop _ rt] at HR14
            clear HD13
            go_wp2_with fail
            refine HR14.mono ?_
            rintro e w14 ⟨rfl, hq14⟩
            have hb14 := hb13.trans (hq14.mono hb13.size)
            go_wp2_with fail
            refine (lawknown_any _ (hm.below hb14)).mono ?_
            rintro e wz ⟨rfl, hz⟩
            have HZ := Lib.hid (hb14.trans (hz.mono hb14.size)); clear hz
            go_wp2_with fail
            go_ret
            exact ⟨rfl, HZ.out⟩
      | false =>
        have hu : getT (flsX l2) s.data.toList = getT (flsX t) s.data.toList := by rw [f2]; exact get_put_other (flsX t) f.fl (str_ne_of he)
        cases hr : getT (flsX t) s.data.toList with
        | none =>
          rw [hr] at HG6 hu
          go_wp2_with fail
          refine HG6.mono ?_
          rintro e w6 ⟨rfl, hq6⟩
          have hb6 := hb5.trans (hq6.mono hb5.size)
          have xf6 := xf5.below hq6
          have h2 := h2.below hq6
          have h3 := h3.below hq6
          have b4 := b4.below hq6
          have kf0 := xf6.c0
          have kf1 := xf6.c1
          have HG7 := tget_any l2 A2 c2 s w6 h2.tree.2 (z2.small (by omega) (by omega))
          rw [hu] at HG7
          clear HG6 hq6 hu hr
          go_wp2_with fail
          refine HG7.mono ?_
          rintro e w7 ⟨rfl, hq7⟩
          have hb7 := hb6.trans (hq7.mono hb6.size)
          have xf7 := xf6.below hq7
          have h3 := h3.below hq7
          have b4 := b4.below hq7
          have kf0 := xf7.c0
          have kf1 := xf7.c1
          have HB8 := samebytes_any f.b f.b A4 f.A c4 f.c w7 b4.at_ (fb.below hb7)
          rw [beq_self_eq_true] at HB8
          clear HG7 hq7
          go_wp2_with fail
          refine HB8.mono ?_
          rintro e w8 ⟨rfl, hq8⟩
          have hb8 := hb7.trans (hq8.mono hb7.size)
          have xf8 := xf7.below hq8
          have h3 := h3.below hq8
          have kf0 := xf8.c0
          have kf1 := xf8.c1
          clear HB8
          have HB9 := samebytes_any [] [] none none 0 0 w8 (BytesAt.nil _ _) (BytesAt.nil _ _)
          rw [beq_self_eq_true] at HB9
          go_wp2_with fail
          refine HB9.mono ?_
          rintro e w9 ⟨rfl, hq9⟩
          have hb9 := hb8.trans (hq9.mono hb8.size)
          have xf9 := xf8.below hq9
          have h3 := h3.below hq9
          have kf0 := xf9.c0
          have kf1 := xf9.c1
          clear HB9
          have HD := tdrop_any t A ca f.p w9 (ht.below hb9) (st.small (by omega) (by omega))
          go_wp2_with fail
          refine HD.mono ?_
          rintro e w10 ⟨v10, l10, rfl, h10, f10, hq10⟩
          obtain ⟨A10, c10, rfl⟩ := h10.own.slice
          have hb10 := hb9.trans (hq10.mono hb9.size)
          have h3 := h3.below hq10
          have hl10 := (SizeX.of_drop f10 st).len
          have HS := same_any l3 l10 A3 A10 c3 c10 w10 (by omega) (by omega) h3.tree.2 h10.tree.2
          rw [decide_eq_true (F3.trans f10.symm)] at HS
          clear HD hq10
          go_wp2_with fail
          refine HS.mono ?_
          rintro e w11 ⟨rfl, hq11⟩
          have hb11 := hb10.trans (hq11.mono hb10.size)
          clear HS hq11
          have HR := tright_any t A ca w11 (ht.below hb11) tt.paths (hm.below hb11)
          cases rt : rightT (flsX t) with
          | false =>
            rw [rt] at HR
            go_wp2_with fail
            refine HR.mono ?_
            rintro e w12 ⟨rfl, hq12⟩
            have hb12 := hb11.trans (hq12.mono hb11.size)
            go_wp2_with fail
            refine (lawknown_any _ (hm.below hb12)).mono ?_
            rintro e wz ⟨rfl, hz⟩
            have HZ := Lib.hid (hb12.trans (hz.mono hb12.size)); clear hz
            go_wp2_with fail
            go_ret
            exact ⟨rfl, HZ.out⟩
          | true =>
            rw [rt] at HR
            go_wp2_with fail
            refine HR.mono ?_
            rintro e w12 ⟨rfl, hq12⟩
            have hb12 := hb11.trans (hq12.mono hb11.size)
            have HD13 := tdrop_any t A ca s w12 (ht.below hb12) (st.small (by omega) (by omega))
            clear HR
            go_wp2_with fail
            refine HD13.mono ?_
            rintro e w13 ⟨v13, l13, rfl, h13, f13, hq13⟩
            obtain ⟨A13, c13, rfl⟩ := h13.own.slice
            have hb13 := hb12.trans (hq13.mono hb12.size)
            have z13 := SizeX.of_drop f13 st
            have HR14 := tright_any l13 A13 c13 w13 h13.tree.2 (fun x hx => by have := (z13.each x hx).1; omega) (hm.below hb13)
            rw [show rightT (flsX l13) = true from by rw [f13]; exact right_drop _ rt] at HR14
            clear HD13
            go_wp2_with fail
            refine HR14.mono ?_
            rintro e w14 ⟨rfl, hq14⟩
            have hb14 := hb13.trans (hq14.mono hb13.size)
            go_wp2_with fail
            refine (lawknown_any _ (hm.below hb14)).mono ?_
            rintro e wz ⟨rfl, hz⟩
            have HZ := Lib.hid (hb14.trans (hz.mono hb14.size)); clear hz
            go_wp2_with fail
            go_ret
            exact ⟨rfl, HZ.out⟩
        | some b =>
          rw [hr] at HG6 hu
          go_wp2_with fail
          refine HG6.mono ?_
          rintro e w6 ⟨A6, c6, rfl, b6, hq6⟩
          have hb6 := hb5.trans (hq6.mono hb5.size)
          have xf6 := xf5.below hq6
          have h2 := h2.below hq6
          have h3 := h3.below hq6
          have b4 := b4.below hq6
          have kf0 := xf6.c0
          have kf1 := xf6.c1
          have HG7 := tget_any l2 A2 c2 s w6 h2.tree.2 (z2.small (by omega) (by omega))
          rw [hu] at HG7
          clear HG6 hq6 hu hr
          go_wp2_with fail
          refine HG7.mono ?_
          rintro e w7 ⟨A7, c7, rfl, b7, hq7⟩
          have hb7 := hb6.trans (hq7.mono hb6.size)
          have xf7 := xf6.below hq7
          have h3 := h3.below hq7
          have b4 := b4.below hq7
          have b6 := b6.below hq7
          have kf0 := xf7.c0
          have kf1 := xf7.c1
          have HB8 := samebytes_any f.b f.b A4 f.A c4 f.c w7 b4.at_ (fb.below hb7)
          rw [beq_self_eq_true] at HB8
          clear HG7 hq7
          go_wp2_with fail
          refine HB8.mono ?_
          rintro e w8 ⟨rfl, hq8⟩
          have hb8 := hb7.trans (hq8.mono hb7.size)
          have xf8 := xf7.below hq8
          have h3 := h3.below hq8
          have b6 := b6.below hq8
          have b7 := b7.below hq8
          have kf0 := xf8.c0
          have kf1 := xf8.c1
          clear HB8
          have HB9 := samebytes_any b b A6 A7 c6 c7 w8 b6.at_ b7.at_
          rw [beq_self_eq_true] at HB9
          go_wp2_with fail
          refine HB9.mono ?_
          rintro e w9 ⟨rfl, hq9⟩
          have hb9 := hb8.trans (hq9.mono hb8.size)
          have xf9 := xf8.below hq9
          have h3 := h3.below hq9
          have kf0 := xf9.c0
          have kf1 := xf9.c1
          clear HB9
          have HD := tdrop_any t A ca f.p w9 (ht.below hb9) (st.small (by omega) (by omega))
          go_wp2_with fail
          refine HD.mono ?_
          rintro e w10 ⟨v10, l10, rfl, h10, f10, hq10⟩
          obtain ⟨A10, c10, rfl⟩ := h10.own.slice
          have hb10 := hb9.trans (hq10.mono hb9.size)
          have h3 := h3.below hq10
          have hl10 := (SizeX.of_drop f10 st).len
          have HS := same_any l3 l10 A3 A10 c3 c10 w10 (by omega) (by omega) h3.tree.2 h10.tree.2
          rw [decide_eq_true (F3.trans f10.symm)] at HS
          clear HD hq10
          go_wp2_with fail
          refine HS.mono ?_
          rintro e w11 ⟨rfl, hq11⟩
          have hb11 := hb10.trans (hq11.mono hb10.size)
          clear HS hq11
          have HR := tright_any t A ca w11 (ht.below hb11) tt.paths (hm.below hb11)
          cases rt : rightT (flsX t) with
          | false =>
            rw [rt] at HR
            go_wp2_with fail
            refine HR.mono ?_
            rintro e w12 ⟨rfl, hq12⟩
            have hb12 := hb11.trans (hq12.mono hb11.size)
            go_wp2_with fail
            refine (lawknown_any _ (hm.below hb12)).mono ?_
            rintro e wz ⟨rfl, hz⟩
            have HZ := Lib.hid (hb12.trans (hz.mono hb12.size)); clear hz
            go_wp2_with fail
            go_ret
            exact ⟨rfl, HZ.out⟩
          | true =>
            rw [rt] at HR
            go_wp2_with fail
            refine HR.mono ?_
            rintro e w12 ⟨rfl, hq12⟩
            have hb12 := hb11.trans (hq12.mono hb11.size)
            have HD13 := tdrop_any t A ca s w12 (ht.below hb12) (st.small (by omega) (by omega))
            clear HR
            go_wp2_with fail
            refine HD13.mono ?_
            rintro e w13 ⟨v13, l13, rfl, h13, f13, hq13⟩
            obtain ⟨A13, c13, rfl⟩ := h13.own.slice
            have hb13 := hb12.trans (hq13.mono hb12.size)
            have z13 := SizeX.of_drop f13 st
            have HR14 := tright_any l13 A13 c13 w13 h13.tree.2 (fun x hx => by have := (z13.each x hx).1; omega) (hm.below hb13)
            rw [show rightT (flsX l13) = true from by rw [f13]; exact right_drop _ rt] at HR14
            clear HD13
            go_wp2_with fail
            refine HR14.mono ?_
            rintro e w14 ⟨rfl, hq14⟩
            have hb14 := hb13.trans (hq14.mono hb13.size)
            go_wp2_with fail
            refine (lawknown_any _ (hm.below hb14)).mono ?_
            rintro e wz ⟨rfl, hz⟩
            have HZ := Lib.hid (hb14.trans (hz.mono hb14.size)); clear hz
            go_wp2_with fail
            go_ret
            exact ⟨rfl, HZ.out⟩
end Go.Proofs.YtedcaodbcognjaaDoor
