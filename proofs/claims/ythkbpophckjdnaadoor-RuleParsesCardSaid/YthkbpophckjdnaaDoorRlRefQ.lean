/-
  The document's own: a text as a word.
-/
import Derived.Test.YthkbpophckjdnaaDoorRlQuote
import Derived.BigQuiet
import Derived.Laws.DeepStrings4
namespace Go.Proofs.YthkbpophckjdnaaDoor
open Go Go.RowKit Go.Shelf Go.Proofs
attribute [local go_sem] Oper.semAt_some

theorem ba_ext {a b : ByteArray} (h : a.data.toList = b.data.toList) : a = b := by
  cases a; cases b; congr 1; exact Array.ext' h
theorem one_of (s : ByteArray) (k : Nat) (h : k < s.size) : (s.extract k (k + 1)).data.toList = [s[k]] := by
  rw [ByteArray.data_extract, Array.toList_extract, List.extract]
  have hl : s.data.toList.length = s.size := rl_size s
  have : (s.data.toList.drop k).take (k + 1 - k) = [s.data.toList[k]'(by omega)] := by
    rw [show k + 1 - k = 1 from by omega, List.take_one, List.head?_drop, List.getElem?_eq_getElem (by omega)]
    rfl
  rw [this]
  rfl
theorem slice_one (s : ByteArray) (i : Nat) (h : i < s.size) (W : World) : (Instr.slice 9 (.string s) (some (.int .i64 (i : Int))) (some (.int .i64 ((i : Int) + 1))) none).run Tryd.prog W = .ok (.string (s.extract i (i + 1))) W := by
  rw [run_slice_string_if _ _ _ _ _ _ _ Tryd.underlying9, if_pos (by omega), if_pos (by omega)]
  have e1 : (i : Int).toNat = i := by omega
  have e2 : ((i : Int) + 1).toNat = i + 1 := by omega
  rw [e1, e2]
theorem slice_dig (i : Nat) (h : i < 16) (W : World) : (Instr.slice 9 (.string ⟨#[48, 49, 50, 51, 52, 53, 54, 55, 56, 57, 97, 98, 99, 100, 101, 102]⟩) (some (.int .u8 (i : Int))) (some (.int .u8 ((i : Int) + 1))) none).run Tryd.prog W = .ok (.string (digsB.extract i (i + 1))) W := by
  have hz : digsB.size = 16 := rfl
  rw [run_slice_string_if _ _ _ _ _ _ _ Tryd.underlying9, if_pos (by show 0 ≤ (i : Int) + 1 ∧ (i : Int) + 1 ≤ (digsB.size : Int); omega), if_pos (by omega)]
  have e1 : (i : Int).toNat = i := by omega
  have e2 : ((i : Int) + 1).toNat = i + 1 := by omega
  rw [e1, e2]
attribute [local go_sem] slice_one slice_dig
theorem self_nums (b : UInt8) (h : selfL b = true) : 33 ≤ b.toNat ∧ b.toNat ≤ 126 ∧ b.toNat ≠ 37 := by
  have := u8_all (p := fun b => selfL b = true → 33 ≤ b.toNat ∧ b.toNat ≤ 126 ∧ b.toNat ≠ 37) (by decide +kernel) b
  exact this h
theorem self_not (b : UInt8) (h : selfL b = false) : b.toNat < 33 ∨ (33 ≤ b.toNat ∧ 126 < b.toNat) ∨ (33 ≤ b.toNat ∧ b.toNat ≤ 126 ∧ b.toNat = 37) := by
  have := u8_all (p := fun b => selfL b = false → b.toNat < 33 ∨ (33 ≤ b.toNat ∧ 126 < b.toNat) ∨ (33 ≤ b.toNat ∧ b.toNat ≤ 126 ∧ b.toNat = 37)) (by decide +kernel) b
  exact this h
theorem app_data (a b : ByteArray) : (a ++ b).data.toList = a.data.toList ++ b.data.toList := by simp [ByteArray.data_append]
theorem rl_drewQ {w w' : World} {B : Nat} (h : Below B w w') (q : Nat) : Below B w (w'.drewN q) := ⟨h.os, h.tape, h.output, h.size, h.block⟩

set_option maxRecDepth 100000 in
set_option maxHeartbeats 8000000 in
theorem refquoteR_any (s : ByteArray) (w : World) (hs : s.size ≤ 1000000000) :
    Calls Tryd.prog 18 #[.string s] w fun e w' => e = .returned (.string (mkB (quoteL s.data.toList))) ∧ Below w.heap.size w w' := by
  cases he : s.toList.isEmpty with
  | true =>
    have hq : quoteL s.data.toList = [37] := by rw [toList_nil he]; rfl
    have HQ := Lib.hid hq
    clear hq
    go_enter Tryd.func18, Tryd.ntmps18
    go_wp2_with fail
    go_ret
    exact ⟨by rw [HQ.out]; rfl, Below.refl _ _⟩
  | false =>
    have HE := Lib.hid (toList_cons he)
    go_enter Tryd.func18, Tryd.ntmps18
    go_wp2_with fail
    clear he
    go_loopw [3, 4] (fun v3 i wr => ∃ (k : Nat) (o : ByteArray), k ≤ s.size ∧ v3 = .string o ∧ Hid (o.data.toList = quoteB (s.data.toList.take k)) ∧ o.size ≤ 3000000000 ∧ i = .int .i64 k ∧ Below w.heap.size w wr) (fun _ i _ => s.size - (intOf i).toNat)
    case atStart => exact ⟨0, ⟨#[]⟩, Nat.zero_le _, rfl, rfl, by decide, rfl, Below.refl _ _⟩
    case round =>
      obtain ⟨k, o, hk, rfl, HO, hoz, rfl, hbr⟩ := hrel
      by_cases h1 : k < s.size
      · have k1 : (k : Int) < (s.size : Int) := by omega
        have hst := quote_step s k h1
        have hpre := quote_pre s (k + 1)
        have hone := one_of s k h1
        have wk : IntKind.i64.wrap ((k : Int) + 1) = (k : Int) + 1 := IntWalk.i64_in _ (by omega)
        obtain ⟨b, hb⟩ : ∃ b, s[k] = b := ⟨_, rfl⟩
        rw [hb] at hst hone
        have HST := Lib.hid hst
        have HONE := Lib.hid hone
        have HPRE := Lib.hid hpre
        have HB := Lib.hid hb
        clear hst hone hpre
        cases hsf : selfL b with
        | true =>
          obtain ⟨s1, s2, s3⟩ := self_nums b hsf
          have s1 : (33 : Int) ≤ (b.toNat : Int) := by omega
          have s2 : (b.toNat : Int) ≤ 126 := by omega
          have s3 : ((b.toNat : Int) != 37) = true := by simp; omega
          have HQB := Lib.hid (show qb b = [b] by unfold qb; rw [hsf]; rfl)
          clear hsf
          go_wp2_with fail
          go_roundw
          case rel =>
            have hd : (o ++ s.extract k (k + 1)).data.toList = quoteB (s.data.toList.take (k + 1)) := by
              rw [app_data, HONE.out, HST.out, HQB.out, HO.out]
            refine ⟨k + 1, o ++ s.extract k (k + 1), by omega, by go_num, hd, ?_, by go_num, hbr⟩
            rw [← rl_size, hd]; have := HPRE.out; omega
          case measure => simp [intOf]; omega
        | false =>
          have HQB := Lib.hid (show qb b = [37, digL (b / 16), digL (b % 16)] by unfold qb; rw [hsf]; rfl)
          rcases self_not b hsf with s1 | ⟨s1, s2⟩ | ⟨s1, s2, s3⟩
          · have s1 : ¬ (33 : Int) ≤ (b.toNat : Int) := by omega
            clear hsf
            have hi : b.toNat / 16 < 16 := by have := b.toNat_lt; omega
            have lo : b.toNat % 16 < 16 := by omega
            have H1 := dig_hi b hi
            have H2 := dig_lo b lo
            have O1 := Lib.hid (one_of digsB (b.toNat / 16) hi)
            have O2 := Lib.hid (one_of digsB (b.toNat % 16) lo)
            rw [H1] at O1
            rw [H2] at O2
            obtain ⟨x, hx⟩ : ∃ x, b.toNat / 16 = x := ⟨_, rfl⟩
            obtain ⟨y, hy⟩ : ∃ y, b.toNat % 16 = y := ⟨_, rfl⟩
            rw [hx] at O1 hi
            rw [hy] at O2 lo
            have q1 : (b.toNat : Int) / 16 = (x : Int) := by omega
            have q2 : (b.toNat : Int) % 16 = (y : Int) := by omega
            have w1 : IntKind.u8.wrap ((x : Int) + 1) = (x : Int) + 1 := by unfold IntKind.wrap; simp [IntKind.bits, IntKind.signed]; omega
            have w2 : IntKind.u8.wrap ((y : Int) + 1) = (y : Int) + 1 := by unfold IntKind.wrap; simp [IntKind.bits, IntKind.signed]; omega
            clear H1 H2 hx hy
            go_wp2_with fail
            go_region
            all_goals (try go_wp2_with fail)
            go_roundw
            case rel =>
              have hd : (o ++ (ByteArray.mk #[37]) ++ digsB.extract x (x + 1) ++ digsB.extract y (y + 1)).data.toList = quoteB (s.data.toList.take (k + 1)) := by
                rw [app_data, app_data, app_data, O1.out, O2.out, HST.out, HQB.out, HO.out]
                simp
              have hz : (o ++ (ByteArray.mk #[37]) ++ digsB.extract x (x + 1) ++ digsB.extract y (y + 1)).size ≤ 3000000000 := by
                rw [← rl_size, hd]; have := HPRE.out; omega
              exact ⟨k + 1, o ++ (ByteArray.mk #[37]) ++ digsB.extract x (x + 1) ++ digsB.extract y (y + 1), by omega, rfl, hd, hz, by go_num, hbr.drew⟩
            case measure => simp [intOf]; omega
          · have s1 : (33 : Int) ≤ (b.toNat : Int) := by omega
            have s2 : ¬ (b.toNat : Int) ≤ 126 := by omega
            clear hsf
            have hi : b.toNat / 16 < 16 := by have := b.toNat_lt; omega
            have lo : b.toNat % 16 < 16 := by omega
            have H1 := dig_hi b hi
            have H2 := dig_lo b lo
            have O1 := Lib.hid (one_of digsB (b.toNat / 16) hi)
            have O2 := Lib.hid (one_of digsB (b.toNat % 16) lo)
            rw [H1] at O1
            rw [H2] at O2
            obtain ⟨x, hx⟩ : ∃ x, b.toNat / 16 = x := ⟨_, rfl⟩
            obtain ⟨y, hy⟩ : ∃ y, b.toNat % 16 = y := ⟨_, rfl⟩
            rw [hx] at O1 hi
            rw [hy] at O2 lo
            have q1 : (b.toNat : Int) / 16 = (x : Int) := by omega
            have q2 : (b.toNat : Int) % 16 = (y : Int) := by omega
            have w1 : IntKind.u8.wrap ((x : Int) + 1) = (x : Int) + 1 := by unfold IntKind.wrap; simp [IntKind.bits, IntKind.signed]; omega
            have w2 : IntKind.u8.wrap ((y : Int) + 1) = (y : Int) + 1 := by unfold IntKind.wrap; simp [IntKind.bits, IntKind.signed]; omega
            clear H1 H2 hx hy
            go_wp2_with fail
            go_region
            all_goals (try go_wp2_with fail)
            go_roundw
            case rel =>
              have hd : (o ++ (ByteArray.mk #[37]) ++ digsB.extract x (x + 1) ++ digsB.extract y (y + 1)).data.toList = quoteB (s.data.toList.take (k + 1)) := by
                rw [app_data, app_data, app_data, O1.out, O2.out, HST.out, HQB.out, HO.out]
                simp
              have hz : (o ++ (ByteArray.mk #[37]) ++ digsB.extract x (x + 1) ++ digsB.extract y (y + 1)).size ≤ 3000000000 := by
                rw [← rl_size, hd]; have := HPRE.out; omega
              exact ⟨k + 1, o ++ (ByteArray.mk #[37]) ++ digsB.extract x (x + 1) ++ digsB.extract y (y + 1), by omega, rfl, hd, hz, by go_num, hbr.drew⟩
            case measure => simp [intOf]; omega
          · have s1 : (33 : Int) ≤ (b.toNat : Int) := by omega
            have s2 : (b.toNat : Int) ≤ 126 := by omega
            have s3 : ((b.toNat : Int) != 37) = false := by simp; omega
            clear hsf
            have hi : b.toNat / 16 < 16 := by have := b.toNat_lt; omega
            have lo : b.toNat % 16 < 16 := by omega
            have H1 := dig_hi b hi
            have H2 := dig_lo b lo
            have O1 := Lib.hid (one_of digsB (b.toNat / 16) hi)
            have O2 := Lib.hid (one_of digsB (b.toNat % 16) lo)
            rw [H1] at O1
            rw [H2] at O2
            obtain ⟨x, hx⟩ : ∃ x, b.toNat / 16 = x := ⟨_, rfl⟩
            obtain ⟨y, hy⟩ : ∃ y, b.toNat % 16 = y := ⟨_, rfl⟩
            rw [hx] at O1 hi
            rw [hy] at O2 lo
            have q1 : (b.toNat : Int) / 16 = (x : Int) := by omega
            have q2 : (b.toNat : Int) % 16 = (y : Int) := by omega
            have w1 : IntKind.u8.wrap ((x : Int) + 1) = (x : Int) + 1 := by unfold IntKind.wrap; simp [IntKind.bits, IntKind.signed]; omega
            have w2 : IntKind.u8.wrap ((y : Int) + 1) = (y : Int) + 1 := by unfold IntKind.wrap; simp [IntKind.bits, IntKind.signed]; omega
            clear H1 H2 hx hy
            obtain rfl : x = 2 := by omega
            obtain rfl : y = 5 := by omega
            go_wp2_with fail
            go_region
            all_goals (try go_wp2_with fail)
            go_roundw
            case rel =>
              have hd : (o ++ (ByteArray.mk #[37]) ++ digsB.extract 2 (2 + 1) ++ digsB.extract 5 (5 + 1)).data.toList = quoteB (s.data.toList.take (k + 1)) := by
                rw [app_data, app_data, app_data, O1.out, O2.out, HST.out, HQB.out, HO.out]
                simp
              have hz : (o ++ (ByteArray.mk #[37]) ++ digsB.extract 2 (2 + 1) ++ digsB.extract 5 (5 + 1)).size ≤ 3000000000 := by
                rw [← rl_size, hd]; have := HPRE.out; omega
              exact ⟨k + 1, o ++ (ByteArray.mk #[37]) ++ digsB.extract 2 (2 + 1) ++ digsB.extract 5 (5 + 1), by omega, rfl, hd, hz, by go_num, hbr.drew⟩
            case measure => simp [intOf]; omega
      · obtain rfl : k = s.size := by omega
        have hq : mkB (quoteL s.data.toList) = o := by
          apply ba_ext
          rw [mkB_data, HO.out]
          unfold quoteL
          rw [HE.out, ← rl_size, List.take_length]
          rfl
        have HQ := Lib.hid hq
        clear hq
        go_wp2_with fail
        go_ret
        exact ⟨by rw [HQ.out]; rfl, hbr⟩
end Go.Proofs.YthkbpophckjdnaaDoor
