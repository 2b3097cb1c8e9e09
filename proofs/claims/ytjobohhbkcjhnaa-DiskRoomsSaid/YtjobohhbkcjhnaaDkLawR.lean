/-
  The law DiskRooms, walked.
-/
import Derived.Test.YtjobohhbkcjhnaaDkSide
namespace Go.Proofs.Ytjobohhbkcjhnaa
open Go Go.RowKit Go.Shelf Go.Proofs

/-- Two areas that have pending bytes. -/
def dR (P Q : Bs) (r : Nat) : DDk := ⟨[⟨[], P.map .byte⟩, ⟨[], Q.map .byte⟩], r, none, false⟩
theorem dR_new (r : Nat) (hr : r ≤ 200) : DDk.new 2 (r : Int) = dR [] [] r := by
  unfold DDk.new dR
  rw [show (min (max (r : Int) 0) 4194304).toNat = r by omega]; rfl
theorem dR_used (P Q : Bs) (r : Nat) : (dR P Q r).used = P.length + Q.length := by
  show usedL [⟨[], P.map .byte⟩, ⟨[], Q.map .byte⟩] = _
  unfold usedL DAr.now
  simp [runS_bytes]
/-- One more, in the one or the other. -/
theorem dR_more (P Q b : Bs) (r : Nat) (a : Int) (ha : a = 0 ∨ a = 1) :
    (P.length + Q.length + b.length ≤ r → appendE (dR P Q r) a b = 0 ∧ ∃ P' Q', P'.length + Q'.length = P.length + Q.length + b.length ∧ appendD (dR P Q r) a b = dR P' Q' r) ∧
    (r < P.length + Q.length + b.length → appendE (dR P Q r) a b = 8 ∧ appendD (dR P Q r) a b = dR P Q r) := by
  rcases ha with rfl | rfl
  · refine ⟨fun h => ?_, fun h => ?_⟩
    · obtain ⟨h1, h2⟩ := calm_append (d := dR P Q r) ⟨rfl, rfl⟩ (i := 0) (by show 0 < 2; omega) (b := b) (by rw [dR_used]; exact h)
      refine ⟨h1, P ++ b, Q, by rw [List.length_append]; omega, h2.trans ?_⟩
      unfold DDk.add addAt dR
      simp [List.map_append]
    · exact calm_full (d := dR P Q r) ⟨rfl, rfl⟩ (i := 0) (by show 0 < 2; omega) (b := b) (by rw [dR_used]; exact h)
  · refine ⟨fun h => ?_, fun h => ?_⟩
    · obtain ⟨h1, h2⟩ := calm_append (d := dR P Q r) ⟨rfl, rfl⟩ (i := 1) (by show 1 < 2; omega) (b := b) (by rw [dR_used]; exact h)
      refine ⟨h1, P, Q ++ b, by rw [List.length_append]; omega, h2.trans ?_⟩
      unfold DDk.add addAt dR
      simp [List.map_append]
    · exact calm_full (d := dR P Q r) ⟨rfl, rfl⟩ (i := 1) (by show 1 < 2; omega) (b := b) (by rw [dR_used]; exact h)
/-- Cut off it is room again. -/
theorem dR_cuts (P Q b : Bs) (r : Nat) (hb : b.length ≤ r) (d1 d2 : DDk) (e1 : d1 = cutD (dR P Q r) 0 0) (e2 : d2 = cutD d1 1 0) : cutE (dR P Q r) 0 0 = 0 ∧ cutE d1 1 0 = 0 ∧ d2.used = 0 ∧ appendE d2 1 b = 0 := by
  obtain ⟨h1, h2⟩ := calm_cut (d := dR P Q r) ⟨rfl, rfl⟩ (i := 0) (k := 0) (by show 0 < 2; omega) (Nat.zero_le _)
  have e1 : d1 = (dR P Q r).add 0 [.cut 0] := e1.trans h2
  subst e1
  obtain ⟨h3, h4⟩ := calm_cut (d := (dR P Q r).add 0 [.cut 0]) ⟨rfl, rfl⟩ (i := 1) (k := 0) (by show 1 < 2; omega) (Nat.zero_le _)
  have e2 : d2 = ((dR P Q r).add 0 [.cut 0]).add 1 [.cut 0] := e2.trans h4
  have e3 : d2 = ⟨[⟨[], P.map .byte ++ [.cut 0]⟩, ⟨[], Q.map .byte ++ [.cut 0]⟩], r, none, false⟩ := by rw [e2]; rfl
  have hu : d2.used = 0 := by
    rw [e3]
    show usedL [⟨[], P.map .byte ++ [.cut 0]⟩, ⟨[], Q.map .byte ++ [.cut 0]⟩] = 0
    unfold usedL DAr.now
    simp [runS_append, runS_cons, runS_nil, DSt.on]
  refine ⟨h1, h3, hu, ?_⟩
  exact (calm_append (d := d2) (by rw [e3]; exact ⟨rfl, rfl⟩) (i := 1) (by rw [e3]; show 1 < 2; omega) (b := b) (by rw [hu, e3]; show 0 + b.length ≤ r; omega)).1

/-- The document's Used, of nothing. -/
theorem refused_zero (w : World) : Calls Try.prog 18 #[.agg #[.slice none 0 0, .int .i64 0, .bool false, .int .i64 0, .bool false]] w fun e w' => e = .returned (.int .i64 0) ∧ Below w.heap.size w w' := by
  go_enter Try.func18, Try.ntmps18
  go_wp2_with fail
  go_loop [3, 4] (fun s y => s = .int .i64 0 ∧ y = .int .i64 0) (fun _ _ => 0)
  case atStart => exact ⟨rfl, rfl⟩
  case round =>
    obtain ⟨rfl, rfl⟩ := hrel
    go_wp2_with fail
    go_ret
    exact ⟨rfl, (Below.refl _ _).alloc (Nat.le_refl _) _⟩
/-- Bytes that are 0. -/
theorem make_bytes (w : World) (n : Nat) (hn : n ≤ 100000) : ∃ w', (Instr.makeSlice 32 (.int .i64 (n : Int)) (.int .i64 (n : Int))).run Try.prog w = .ok (.slice (some ⟨w.heap.size, 0, none⟩) n n) w' ∧ OB w.heap.size w' (.slice (some ⟨w.heap.size, 0, none⟩) n n) (List.replicate n 0) ∧ Below w.heap.size w w' := by
  obtain ⟨i0, hi, hz0, hz1, hz2⟩ := info_parts fr_u8
  obtain ⟨w1, hr, ho, hg⟩ := run_make_full (P := Try.prog) w w.heap.size 32 5 i0 _ 1 Try.underlying32 hi hz0 hz1 .i64 .i64 n (by rw [hz2]; omega) (by unfold maxLen; omega) (Nat.le_refl _)
  refine ⟨w1, hr, ?_, (Below.refl _ _).grown hg (Nat.le_refl _) (fun k e => by cases e)⟩
  unfold OB valsB
  rw [List.length_replicate, List.map_replicate]
  rw [Nat.mul_one] at ho
  rw [show (madeCells (Value.int .u8 0).cells n).toList = List.replicate n (Value.int .u8 0) from toList_madeCells_one _ n] at ho
  exact ho

set_option maxRecDepth 100000 in
set_option maxHeartbeats 16000000 in
theorem diskrooms_any (room : Nat) (A0 : Option Addr) (c0 : Nat) (l0 : List BX) (w : World) (hroom : room < 65536) (h0 : BRowAt w A0 c0 l0) (n0 : ∀ x ∈ l0, x.A = none → x.c = 0) (b0 : l0.length ≤ 281474976710656) :
    Calls Try.prog 8 #[.int .u16 (room : Int), .slice A0 l0.length c0] w fun e w' => e = .returned (.bool true) ∧ Below w.heap.size w w' := by
  have R0 := Lib.hid (fun (W : World) (hW : Below w.heap.size w W) (i : Nat) (hi : i < l0.length) => show ∃ g o x, A0 = some ⟨g, o, none⟩ ∧ l0[i]? = some x ∧ W.cell? ⟨g, o + i, none⟩ = some (.slice x.A x.b.length x.c) ∧ SlAt w x.A x.c x.b from by
    obtain ⟨x, hx⟩ : ∃ x, l0[i]? = some x := ⟨_, List.getElem?_eq_getElem hi⟩
    obtain ⟨g, o, e, hc⟩ := (h0.below hW).at_ hx
    exact ⟨g, o, x, e, hx, hc, h0.sl n0 (List.mem_of_getElem? hx)⟩)
  by_cases hsm : l0.length ≤ 30
  · have hs0 : sumX l0 ≤ 30 * reachBytes := sumX_big (fun x hx => (h0.caps x hx).2.2) (by omega)
    have hs0 : sumX l0 ≤ 9000000000000000 := by unfold reachBytes at hs0; omega
    have HS0 := Lib.hid hs0
    have q0 : ((30 : Int) < (l0.length : Int)) = False := eq_false (by omega)
    obtain ⟨r, hr⟩ : ∃ r, room % 200 = r := ⟨_, rfl⟩
    have hr200 : r < 200 := by omega
    have hrr : ((room : Int) % 200) = (r : Int) := by omega
    have hpos : (0 : Int) ≤ (room : Int) := by omega
    clear hs0 h0 n0
    go_enter Try.func8, Try.ntmps8
    go_wp2_with fail
    go_loop [5, 6] (fun s y => ∃ (i : Nat), i ≤ l0.length ∧ s = .int .i64 (sumX (l0.take i) : Nat) ∧ y = .int .i64 i) (fun _ y => l0.length - (intOf y).toNat)
    case atStart => exact ⟨0, Nat.zero_le _, rfl, rfl⟩
    case round =>
      obtain ⟨i, hi, rfl, rfl⟩ := hrel
      by_cases k1 : i < l0.length
      · obtain ⟨g, o, x, rfl, hx, hc, hsl⟩ := R0.out w (Below.refl _ _) i k1
        have k2 : (i : Int) < (l0.length : Int) := by omega
        have hsn := sumX_snoc hx
        have hle := sumX_take_le l0 (i + 1)
        have hb := HS0.out
        have hub : sumX (l0.take i) + x.b.length ≤ 9000000000000000 := by omega
        have HSN := Lib.hid hsn
        clear hsn hle hb hsl hx
        generalize sumX (l0.take i) = U at *
        go_wp2_with fail
        go_round
        case rel => exact ⟨i + 1, by omega, by rw [HSN.out]; go_num, by go_num⟩
        case measure => simp [intOf]; omega
      · obtain rfl : i = l0.length := by omega
        rw [List.take_length]
        have hbb := HS0.out
        obtain ⟨U, hU⟩ : ∃ U, sumX l0 = U := ⟨_, rfl⟩
        rw [hU]
        have hUb : U ≤ 18000000000000000 := by omega
        have HU := Lib.hid hU
        clear hU hbb
        by_cases h800 : U ≤ 900
        · have q1 : ((900 : Int) < (U : Int)) = False := eq_false (by omega)
          have HN := Lib.hid (new_ds w 2 (r : Int))
          rw [dR_new r (by omega)] at HN
          go_wp2_with fail
          refine HN.out.mono ?_
          rintro e w1 ⟨g, rfl, who1, hD1, ht1⟩
          have HD1 := Lib.hid hD1
          have HT1 := Lib.hid ht1
          clear hD1 ht1 HN
          go_wp2_with fail
          go_loopw [9, 10] (fun u y wr => ∃ (i : Nat) (P Q : Bs) (who : Nat → Nat), i ≤ l0.length ∧ y = .int .i64 i ∧ u = .int .i64 ((P.length + Q.length : Nat) : Int) ∧ P.length + Q.length ≤ r ∧ Hid (DS w.heap.size who wr 1 g (dR P Q r) (sumX (l0.take i))) ∧ Hid (Turn 1 27 (fun _ => 0) w who wr)) (fun _ y _ => l0.length - (intOf y).toNat)
          case atStart => exact ⟨0, [], [], who1, Nat.zero_le _, rfl, rfl, Nat.zero_le _, HD1, HT1⟩
          case round =>
            obtain ⟨i, P, Q, who, hi, rfl, rfl, hpq, HD, HT⟩ := hrel
            by_cases k5 : i < l0.length
            · obtain ⟨g0, o0, x, rfl, hx, hc, hsl⟩ := R0.out wr (HT.out.zero (by omega)) i k5
              have k6 : (i : Int) < (l0.length : Int) := by omega
              have hsn := sumX_snoc hx
              have hle := sumX_take_le l0 (i + 1)
              have hU2 := HU.out
              obtain ⟨a, ha⟩ : ∃ a : Int, (i : Int) % 2 = a := ⟨_, rfl⟩
              have hai : 0 ≤ (i : Int) := by omega
              have HA := Lib.hid (HD.out.append (by omega) (by omega) a (hsl.below (HT.out.zero (by omega))) rfl (by omega) (hsl.who HT.out))
              obtain ⟨hf1, hf2⟩ := dR_more P Q x.b r a (by omega)
              have HSN := Lib.hid hsn
              have HRW := Lib.hid (fun (W : World) (hW : Below w.heap.size w W) => R0.out W hW i k5)
              have HX := Lib.hid hx
              have HAI := Lib.hid ha
              obtain ⟨u, hu⟩ : ∃ u, P.length + Q.length = u := ⟨_, rfl⟩
              rw [hu] at hf1 hf2 hpq ⊢
              have hxb : x.b.length ≤ 900 := by omega
              by_cases hfit : u + x.b.length ≤ r
              · obtain ⟨e0, P', Q', hl', ed⟩ := hf1 hfit
                rw [e0, ed] at HA
                have HL' := Lib.hid hl'
                have hfi : (u : Int) + (x.b.length : Int) ≤ (r : Int) := by omega
                clear hx hsl hsn hle hU2 hf1 hf2 e0 ed hl' hu
                go_wp2_with fail
                refine HA.out.mono ?_
                rintro e w2 ⟨rfl, who2, hD2, ht2⟩
                have HT2 := Lib.hid (HT.out.trans ht2)
                obtain ⟨g1, o1, x', e1, hx', hc2, hsl2⟩ := HRW.out w2 (HT2.out.zero (by omega))
                cases e1
                rw [HX.out] at hx'
                cases hx'
                have HD2 := Lib.hid hD2
                have HUS := Lib.hid (hD2.used (by have := HU.out; have := sumX_take_le l0 (i + 1); have := HSN.out; omega))
                rw [dR_used, HL'.out] at HUS
                clear hD2 ht2 hsl2 HA hc
                go_wp2_with fail
                refine HUS.out.mono ?_
                rintro e w3 ⟨rfl, hw⟩
                have hw := hw.symm
                subst hw
                go_wp2_with fail
                go_roundw
                case rel => exact ⟨i + 1, P', Q', who2, by omega, by go_num, by rw [HL'.out]; go_num, by rw [HL'.out]; omega, by rw [HSN.out]; exact HD2, HT2⟩
                case measure => simp [intOf]; omega
              · obtain ⟨e0, ed⟩ := hf2 (by omega)
                rw [e0, ed] at HA
                have HL' := Lib.hid hu
                have hfi : (r : Int) < (u : Int) + (x.b.length : Int) := by omega
                have hfd : decide ((u : Int) + (x.b.length : Int) ≤ (r : Int)) = false := decide_eq_false (by omega)
                clear hx hsl hsn hle hU2 hf1 hf2 e0 ed hu
                go_wp2_with fail
                refine HA.out.mono ?_
                rintro e w2 ⟨rfl, who2, hD2, ht2⟩
                have HT2 := Lib.hid (HT.out.trans ht2)
                obtain ⟨g1, o1, x', e1, hx', hc2, hsl2⟩ := HRW.out w2 (HT2.out.zero (by omega))
                cases e1
                rw [HX.out] at hx'
                cases hx'
                have HD2 := Lib.hid hD2
                have HUS := Lib.hid (hD2.used (by have := HU.out; have := sumX_take_le l0 (i + 1); have := HSN.out; omega))
                rw [dR_used, HL'.out] at HUS
                clear hD2 ht2 hsl2 HA hc
                go_wp2_with fail
                refine HUS.out.mono ?_
                rintro e w3 ⟨rfl, hw⟩
                have hw := hw.symm
                subst hw
                go_wp2_with fail
                go_roundw
                case rel => exact ⟨i + 1, P, Q, who2, by omega, by go_num, by rw [HL'.out], by rw [HL'.out]; omega, by rw [HSN.out]; exact HD2, HT2⟩
                case measure => simp [intOf]; omega
            · obtain rfl : i = l0.length := by omega
              rw [List.take_length] at HD
              have hsu : sumX l0 ≤ 900 := by have := HU.out; omega
              obtain ⟨d1, e1⟩ : ∃ d1, d1 = cutD (dR P Q r) 0 0 := ⟨_, rfl⟩
              obtain ⟨d2, e2⟩ : ∃ d2, d2 = cutD d1 1 0 := ⟨_, rfl⟩
              obtain ⟨f1, f2, f3, f4⟩ := dR_cuts P Q (List.replicate r 0) r (by rw [List.length_replicate]; exact Nat.le_refl _) d1 d2 e1 e2
              have E2 := Lib.hid e2
              have F2 := Lib.hid f2
              have F3 := Lib.hid f3
              have F4 := Lib.hid f4
              have HC := Lib.hid (HD.out.cut (by omega) (by omega) 0 0)
              rw [f1, ← e1] at HC
              have hrl : (r : Int) ≤ 9223372036854775807 := by omega
              clear e1 e2 f1 f2 f3 f4 hpq
              go_wp2_with fail
              refine HC.out.mono ?_
              rintro e w2 ⟨rfl, who2, hD2, ht2⟩
              have HC2 := Lib.hid (hD2.cut (by omega) (by omega) 1 0)
              rw [F2.out, ← E2.out] at HC2
              have HT2 := Lib.hid (HT.out.trans ht2)
              clear hD2 ht2 HC HD
              go_wp2_with fail
              refine HC2.out.mono ?_
              rintro e w3 ⟨rfl, who3, hD3, ht3⟩
              have HUS := Lib.hid (hD3.used (by omega))
              rw [F3.out] at HUS
              have HT3 := Lib.hid (HT2.out.trans ht3)
              have HD3 := Lib.hid hD3
              clear hD3 ht3 HC2 HT2
              go_wp2_with fail
              refine HUS.out.mono ?_
              rintro e w' ⟨rfl, hw⟩
              have hw := hw.symm
              subst hw
              obtain ⟨w4, hmk, hob, hb4⟩ := make_bytes w3 r (by omega)
              have HMK := Lib.hid hmk
              obtain ⟨A4, c4, e4, hs4, hbl4⟩ := OB.sl hob
              rw [List.length_replicate] at e4
              cases e4
              have HAP := Lib.hid ((HD3.out.below hb4).append (by omega) (by omega) 1 hs4 (List.length_replicate) (by omega) (fun _ q o e => (by cases e; exact HD3.out.fresh _ (Nat.le_refl _))))
              rw [F4.out] at HAP
              have HT4 := Lib.hid (HT3.out.trans (Turn.below hb4))
              clear hmk hob hb4 hs4 hbl4 HUS HT3 HD3
              go_wp2_with fail
              rw [HMK.out]
              go_wp2_with fail
              refine HAP.out.mono ?_
              rintro e w5 ⟨rfl, who5, hD5, ht5⟩
              have HT5 := Lib.hid (HT4.out.trans ht5)
              have HZ := Lib.hid (refused_zero w5)
              clear hD5 ht5 HAP HT4
              go_wp2_with fail
              refine HZ.out.mono ?_
              rintro e w6 ⟨rfl, hb6⟩
              have HT6 := Lib.hid (HT5.out.trans (Turn.below hb6))
              have HK := Lib.hid (known_any w6)
              clear hb6 HZ HT5
              go_wp2_with fail
              refine HK.out.mono ?_
              rintro e w7 ⟨rfl, hb7⟩
              go_wp2_with fail
              go_ret
              have hz := HT6.out.zero (by omega)
              exact ⟨rfl, hz.trans (hb7.mono hz.size)⟩
        · have q1 : ((900 : Int) < (U : Int)) = True := eq_true (by omega)
          have HK := Lib.hid (known_any w)
          go_wp2_with fail
          refine HK.out.mono ?_
          rintro e w1 ⟨rfl, hb⟩
          go_wp2_with fail
          go_ret
          exact ⟨rfl, hb⟩
  · have q0 : ((30 : Int) < (l0.length : Int)) = True := eq_true (by omega)
    clear h0 n0
    go_enter Try.func8, Try.ntmps8
    go_wp2_with fail
    go_loop [5, 6] (fun s y => ∃ (i : Nat) (z : Int), i ≤ l0.length ∧ s = .int .i64 z ∧ y = .int .i64 i) (fun _ y => l0.length - (intOf y).toNat)
    case atStart => exact ⟨0, 0, Nat.zero_le _, rfl, rfl⟩
    case round =>
      obtain ⟨i, z, hi, rfl, rfl⟩ := hrel
      by_cases k1 : i < l0.length
      · obtain ⟨g, o, x, rfl, hx, hc, hsl⟩ := R0.out w (Below.refl _ _) i k1
        have k2 : (i : Int) < (l0.length : Int) := by omega
        clear hsl hx
        go_wp2_with fail
        go_round
        case rel => exact ⟨i + 1, _, by omega, rfl, by go_num⟩
        case measure => simp [intOf]; omega
      · obtain rfl : i = l0.length := by omega
        have HK := Lib.hid (known_any w)
        by_cases hz : z > 900
        · have hz1 : decide (z > 900) = true := decide_eq_true hz
          go_wp2_with fail
          refine HK.out.mono ?_
          rintro e w1 ⟨rfl, hb⟩
          go_wp2_with fail
          go_ret
          exact ⟨rfl, hb⟩
        · have hz1 : decide (z > 900) = false := decide_eq_false hz
          go_wp2_with fail
          refine HK.out.mono ?_
          rintro e w1 ⟨rfl, hb⟩
          go_wp2_with fail
          go_ret
          exact ⟨rfl, hb⟩
end Go.Proofs.Ytjobohhbkcjhnaa
