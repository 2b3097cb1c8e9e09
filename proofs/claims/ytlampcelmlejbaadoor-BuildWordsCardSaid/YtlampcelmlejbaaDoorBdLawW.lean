/-
  The walk of BuildWords.
-/
import Derived.Test.YtlampcelmlejbaaDoorBdKnown
import Derived.Laws.DeepStrings4
namespace Go.Proofs.YtlampcelmlejbaaDoor
open Go Go.RowKit Go.Shelf Go.Proofs
attribute [local go_sem] Oper.semAt_some

theorem bd_app (a b : ByteArray) : (a ++ b).data.toList = a.data.toList ++ b.data.toList := by simp [ByteArray.data_append]
theorem bd_one (s : ByteArray) (k : Nat) (h : k < s.size) : (s.extract k (k + 1)).data.toList = [s[k]] := by
  rw [Lib.extract_data]
  have hl : s.data.toList.length = s.size := Array.length_toList
  rw [show k + 1 - k = 1 by omega, List.drop_eq_getElem_cons (by omega)]
  rfl
theorem bwide_snoc (s : ByteArray) (k : Nat) (h : k < s.size) : bwide (s.data.toList.take (k + 1)) = bwide (s.data.toList.take k) ++ bwideC s[k] := by
  have hl : s.data.toList.length = s.size := Array.length_toList
  rw [List.take_add_one, List.getElem?_eq_getElem (by omega), Option.toList_some]
  unfold bwide
  rw [List.flatMap_append]
  simp
  rfl
theorem bslice_one (s : ByteArray) (i : Nat) (h : i < s.size) (W : World) : (Instr.slice 9 (.string s) (some (.int .i64 (i : Int))) (some (.int .i64 ((i : Int) + 1))) none).run Tryd.prog W = .ok (.string (s.extract i (i + 1))) W := by
  rw [run_slice_string_if _ _ _ _ _ _ _ Tryd.underlying9, if_pos (by omega), if_pos (by omega)]
  have e1 : (i : Int).toNat = i := by omega
  have e2 : ((i : Int) + 1).toNat = i + 1 := by omega
  rw [e1, e2]
attribute [local go_sem] bslice_one

set_option maxRecDepth 100000 in
set_option maxHeartbeats 16000000 in
theorem bwords_law (dir s : ByteArray) (w : World) (hd : dir.size ≤ 1000000000000000) (hs : s.size ≤ 1000000000000000) (hm : MaxOk w) :
    Calls Tryd.prog 7 #[.string dir, .string s] w (BdB true w) := by
  have HK := Lib.hid (fun (W : World) (hb : Below w.heap.size w W) => bknown_any W (hm.below hb))
  have HMX := Lib.hid (fun (W : World) (hb : Below w.heap.size w W) => hm.below hb)
  clear hm
  by_cases hbig : 90 < dir.size ∨ 800 < s.size
  · have HB := Lib.hid (Below.refl w.heap.size w)
    by_cases h9 : 90 < dir.size
    · have g1 : (90 : Int) < (dir.size : Int) := by omega
      clear hbig
      go_enter Tryd.func7, Tryd.ntmps7
      go_wp2_with fail
      refine (HK.out _ HB.out).mono ?_
      rintro e y ⟨rfl, hb⟩
      go_wp2_with fail
      go_ret
      exact ⟨rfl, hb⟩
    · have g1 : ¬ (90 : Int) < (dir.size : Int) := by omega
      have g2 : (800 : Int) < (s.size : Int) := by omega
      clear hbig
      go_enter Tryd.func7, Tryd.ntmps7
      go_wp2_with fail
      refine (HK.out _ HB.out).mono ?_
      rintro e y ⟨rfl, hb⟩
      go_wp2_with fail
      go_ret
      exact ⟨rfl, hb⟩
  · have g1 : ¬ (90 : Int) < (dir.size : Int) := by omega
    have g2 : ¬ (800 : Int) < (s.size : Int) := by omega
    have hln : s.data.toList.length = s.size := Array.length_toList
    have H1 := bparse_any dir s w (by omega) (HMX.out w (Below.refl _ _))
    have HWB := Lib.hid (parseB_bwide dir.data.toList s.data.toList (by omega))
    obtain ⟨PP, hPP⟩ : ∃ PP, parseB dir.data.toList s.data.toList = PP := ⟨_, rfl⟩
    rw [hPP] at H1
    have HPP := Lib.hid hPP
    obtain ⟨PE, PL⟩ := PP
    have H1 := Lib.hid H1
    have sp : (PE == PE) = true := beq_self_eq_true _
    clear hPP hln hbig
    go_enter Tryd.func7, Tryd.ntmps7
    go_wp2_with fail
    refine H1.out.mono ?_
    rintro e w1 ⟨A1, c1, l1, rfl, hat1, hl1, hb1⟩
    have HB1 := Lib.hid hb1
    have HAT1 := Lib.hid hat1
    have HL1 := Lib.hid hl1
    obtain ⟨N, hN⟩ : ∃ N, l1.length = N := ⟨_, rfl⟩
    rw [hN]
    have HN := Lib.hid hN
    clear hb1 hat1 hl1 H1 hN
    go_wp2_with fail
    go_loop [7, 8] (fun v7 v8 => ∃ (k : Nat) (x : ByteArray), k ≤ s.size ∧ v8 = .int .i64 k ∧ v7 = .string x ∧ Hid (x.data.toList = bwide (s.data.toList.take k)) ∧ x.size ≤ 12 * k) (fun _ v8 => s.size - (intOf v8).toNat)
    case atStart => exact ⟨0, ⟨#[]⟩, Nat.zero_le _, rfl, rfl, rfl, Nat.le_refl _⟩
    case round =>
      obtain ⟨k, x, hk, rfl, rfl, HX, hxz⟩ := hrel
      by_cases h1 : k < s.size
      · have k1 : (k : Int) < (s.size : Int) := by omega
        have HSN := Lib.hid (bwide_snoc s k h1)
        have hone := bd_one s k h1
        obtain ⟨q, hq⟩ : ∃ q, s.extract k (k + 1) = q := ⟨_, rfl⟩
        have hqz : q.size = 1 := by rw [← hq, ByteArray.size_extract]; omega
        rw [hq] at hone
        have HONE := Lib.hid hone
        have hsl := fun W => bslice_one s k h1 W
        rw [hq] at hsl
        obtain ⟨cb, hcb⟩ : ∃ cb, s[k] = cb := ⟨_, rfl⟩
        rw [hcb] at HSN
        rw [hcb] at HONE
        clear hq hone
        by_cases c32 : cb = 32
        · have q1 : ((cb.toNat : Int) == 32) = true := by rw [c32]; rfl
          have q2 : ((cb.toNat : Int) == 10) = false := by rw [c32]; rfl
          have HC := Lib.hid c32
          clear c32
          go_wp2_with fail
          go_round
          case rel =>
            refine ⟨k + 1, _, by omega, by go_num, rfl, ?_, ?_⟩
            · unfold Hid
              rw [HSN.out, show bwideC cb = [32, 32, 32] by rw [HC.out]; rfl, show ([32, 32, 32] : Bs) = [cb] ++ [32, 32] by rw [HC.out]; rfl]
              simp only [bd_app, HX.out, HONE.out]
              simp
            · simp only [ByteArray.size_append, hqz]
              have : (ByteArray.mk #[32, 32]).size = 2 := rfl
              omega
          case measure => simp [intOf]; omega
        · by_cases c10 : cb = 10
          · have q1 : ((cb.toNat : Int) == 32) = false := by rw [c10]; rfl
            have q2 : ((cb.toNat : Int) == 10) = true := by rw [c10]; rfl
            have HC := Lib.hid c10
            clear c32 c10
            go_wp2_with fail
            go_round
            case rel =>
              refine ⟨k + 1, _, by omega, by go_num, rfl, ?_, ?_⟩
              · unfold Hid
                rw [HSN.out, show bwideC cb = 10 :: mindW by rw [HC.out]; rfl, show (10 :: mindW : Bs) = [cb] ++ mindW by rw [HC.out]; rfl]
                simp only [bd_app, HX.out, HONE.out]
                simp [mindW]
              · simp only [ByteArray.size_append, hqz]
                have : (ByteArray.mk #[32, 35, 32, 120, 32, 121, 32, 122, 10, 32, 10]).size = 11 := rfl
                omega
            case measure => simp [intOf]; omega
          · have q1 : ((cb.toNat : Int) == 32) = false := by rw [beq_eq_false_iff_ne]; intro e; exact c32 (UInt8.toNat_inj.1 (by show cb.toNat = 32; omega))
            have q2 : ((cb.toNat : Int) == 10) = false := by rw [beq_eq_false_iff_ne]; intro e; exact c10 (UInt8.toNat_inj.1 (by show cb.toNat = 10; omega))
            have HC := Lib.hid (show bwideC cb = [cb] by unfold bwideC; rw [if_neg (by simpa using c32), if_neg (by simpa using c10)])
            clear c32 c10
            go_wp2_with fail
            go_round
            case rel =>
              refine ⟨k + 1, _, by omega, by go_num, rfl, ?_, ?_⟩
              · unfold Hid
                rw [HSN.out, show bwideC cb = [cb] from HC.out]
                simp only [bd_app, HX.out, HONE.out]
                skip
              · simp only [ByteArray.size_append, hqz]
                omega
            case measure => simp [intOf]; omega
      · obtain rfl : k = s.size := by omega
        have hxw : x.data.toList = bwide s.data.toList := by rw [HX.out, List.take_of_length_le (by rw [Array.length_toList]; exact Nat.le_refl _)]
        have H2 := bparse_any dir x w1 (by omega) (HMX.out w1 HB1.out)
        rw [hxw, HWB.out, HPP.out] at H2
        have H2 := Lib.hid H2
        clear hxw
        go_wp2_with fail
        refine H2.out.mono ?_
        rintro e w2 ⟨A2, c2, l2, rfl, hat2, hl2, hb2⟩
        have HB2 := Lib.hid (HB1.out.trans (hb2.mono HB1.out.size))
        have HS := brefsame_any A1 A2 c1 c2 l1 l2 w2 (HAT1.out.below hb2) hat2 (tgs_small (by rw [HL1.out, HPP.out])) (tgs_small (by rw [hl2, HPP.out]))
        rw [show decide (tgsX l1 = tgsX l2) = true from by rw [HL1.out, hl2]; simp, HN.out] at HS
        have HS := Lib.hid HS
        clear hat2 hl2 hb2 H2
        go_wp2_with fail
        refine HS.out.mono ?_
        rintro e w3 ⟨rfl, hb3⟩
        have HB3 := Lib.hid (HB2.out.trans (hb3.mono HB2.out.size))
        clear hb3 HS
        go_wp2_with fail
        refine (HK.out w3 HB3.out).mono ?_
        rintro e w4 ⟨rfl, hb4⟩
        have HB4 := Lib.hid (HB3.out.trans (hb4.mono HB3.out.size))
        clear hb4
        go_wp2_with fail
        go_ret
        exact ⟨rfl, HB4.out⟩
end Go.Proofs.YtlampcelmlejbaaDoor
