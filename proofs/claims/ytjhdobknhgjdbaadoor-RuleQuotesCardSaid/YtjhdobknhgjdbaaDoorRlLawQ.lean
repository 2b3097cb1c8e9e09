/-
  The walk of RuleQuotes.
-/
import Derived.Test.YtjhdobknhgjdbaaDoorRlKnown
namespace Go.Proofs.YtjhdobknhgjdbaaDoor
open Go Go.RowKit Go.Shelf Go.Proofs
attribute [local go_sem] Oper.semAt_some

theorem unqV_quote (s : Bs) : unqV (quoteL s) = (s, true) := by unfold unqV; rw [unquote_quote]
theorem seen_at (q : Bs) (h : ∀ c ∈ q, seenL c = true) (k : Nat) (hk : k < (mkB q).size) : (33 : Int) ≤ ((mkB q)[k]).toNat ∧ (((mkB q)[k]).toNat : Int) ≤ 126 := by
  have hm : (mkB q)[k] ∈ q := by
    have := get_list (mkB q) k hk
    rw [mkB_data] at this
    exact List.mem_of_getElem? this
  have h1 := h _ hm
  unfold seenL at h1
  simp only [Bool.and_eq_true, UInt8.le_iff_toNat_le, decide_eq_true_eq] at h1
  have e1 : (33 : UInt8).toNat = 33 := rfl
  have e2 : (126 : UInt8).toNat = 126 := rfl
  omega

set_option maxRecDepth 100000 in
set_option maxHeartbeats 8000000 in
theorem rquotes_any (s t : ByteArray) (w : World) (hs : s.size ≤ 1000000000000000) (ht : t.size ≤ 1000000000000000) (hm : MaxOk w) :
    Calls Tryd.prog 6 #[.string s, .string t] w (RlB true w) := by
  have HK := Lib.hid (fun (W : World) (hb : Below w.heap.size w W) => rknown_any W (hm.below hb))
  have wsum : IntKind.i64.wrap ((s.size : Int) + (t.size : Int)) = (s.size : Int) + (t.size : Int) := IntWalk.i64_in _ (by omega)
  by_cases hbig : 800 < s.size + t.size
  · have g1 : (800 : Int) < (s.size : Int) + (t.size : Int) := by omega
    have HK1 := Lib.hid (HK.out w (Below.refl _ _))
    clear HK
    go_enter Tryd.func6, Tryd.ntmps6
    go_wp2_with fail
    refine HK1.out.mono ?_
    rintro e w' ⟨rfl, hb⟩
    go_wp2_with fail
    go_ret
    exact ⟨rfl, hb⟩
  · have g1 : ¬ (800 : Int) < (s.size : Int) + (t.size : Int) := by omega
    have HA := Lib.hid (quote_any s w (by omega))
    obtain ⟨a, ha⟩ : ∃ a, mkB (quoteL s.data.toList) = a := ⟨_, rfl⟩
    obtain ⟨b, hb⟩ : ∃ b, mkB (quoteL t.data.toList) = b := ⟨_, rfl⟩
    have had : a.data.toList = quoteL s.data.toList := by rw [← ha, mkB_data]
    have hbd : b.data.toList = quoteL t.data.toList := by rw [← hb, mkB_data]
    have hal : a.size ≤ 5000 := by
      have h1 := quoteL_len s.data.toList
      rw [← had, rl_size, rl_size] at h1; omega
    have ha0 : 0 < a.size := by
      have h1 := quoteL_ne s.data.toList
      rw [← rl_size, had]; exact List.length_pos_iff.2 h1
    have hseen : ∀ k (hk : k < a.size), (33 : Int) ≤ (a[k].toNat : Int) ∧ (a[k].toNat : Int) ≤ 126 := by
      intro k hk
      subst ha
      exact seen_at _ (quoteL_seen _) k hk
    have huv : unqV a.data.toList = (s.data.toList, true) := by rw [had, unqV_quote]
    have heq : (a.toList == b.toList) = (s.toList == t.toList) := by
      rw [ByteArray.toList_eq, ByteArray.toList_eq, ByteArray.toList_eq, ByteArray.toList_eq, had, hbd, Bool.eq_iff_iff, beq_iff_eq, beq_iff_eq]
      exact ⟨fun h => quoteL_inj h, fun h => by rw [h]⟩
    have hss : (s.toList == s.toList) = true := by simp
    have hw1 : ∀ e w1, e = Ending.returned (.string a) ∧ Below w.heap.size w w1 → True := fun _ _ _ => trivial
    have HB := Lib.hid (fun W => quote_any t W (by omega))
    have HU := Lib.hid (fun W => unquote_any a W (by omega))
    rw [huv] at HU
    rw [ha] at HA
    rw [hb] at HB
    simp only [data_mkB] at HU
    have HSE := Lib.hid hseen
    have HEQ := Lib.hid heq
    clear hbig hseen heq had hbd huv ha hb hw1
    go_enter Tryd.func6, Tryd.ntmps6
    go_wp2_with fail
    refine HA.out.mono ?_
    rintro e w1 ⟨rfl, hb1⟩
    go_wp2_with fail
    refine (HB.out w1).mono ?_
    rintro e w2 ⟨rfl, hb2⟩
    have hb02 := hb1.trans (hb2.mono hb1.size)
    go_wp2_with fail
    refine (HU.out w2).mono ?_
    rintro e w3 ⟨rfl, hb3⟩
    have hb03 := hb02.trans (hb3.mono hb02.size)
    have HB03 := Lib.hid hb03
    clear hb1 hb2 hb02 hb3 hb03
    have a1 : ¬ (9223372036854775807 : Int) < (a.size : Int) := by omega
    go_wp2_with fail
    go_loop [9] (fun i => ∃ k : Nat, k ≤ a.size ∧ i = .int .i64 k) (fun i => a.size - (intOf i).toNat)
    case atStart => exact ⟨0, Nat.zero_le _, rfl⟩
    case round =>
      obtain ⟨k, hk, rfl⟩ := hrel
      by_cases hlt : k < a.size
      · have k1 : (k : Int) < (a.size : Int) := by omega
        obtain ⟨q1, q2⟩ := HSE.out k hlt
        obtain ⟨c, hc⟩ : ∃ c, a[k] = c := ⟨_, rfl⟩
        rw [hc] at q1 q2
        have q3 : decide ((c.toNat : Int) ≤ 32) = false := decide_eq_false (by omega)
        have q4 : ¬ (126 : Int) < (c.toNat : Int) := by omega
        go_wp2_with fail
        go_round
        case rel => exact ⟨k + 1, by omega, by go_num⟩
        case measure => simp [intOf]; omega
      · have hk' : k = a.size := by omega
        have HK3 := Lib.hid (HK.out w3 HB03.out)
        cases hq : (s.toList == t.toList) with
        | true =>
          have hab := HEQ.out
          rw [hq] at hab
          go_wp2_with fail
          refine HK3.out.mono ?_
          rintro e w4 ⟨rfl, hb4⟩
          go_wp2_with fail
          go_ret
          exact ⟨rfl, HB03.out.trans (hb4.mono HB03.out.size)⟩
        | false =>
          have hab := HEQ.out
          rw [hq] at hab
          go_wp2_with fail
          refine HK3.out.mono ?_
          rintro e w4 ⟨rfl, hb4⟩
          go_wp2_with fail
          go_ret
          exact ⟨rfl, HB03.out.trans (hb4.mono HB03.out.size)⟩
end Go.Proofs.YtjhdobknhgjdbaaDoor
