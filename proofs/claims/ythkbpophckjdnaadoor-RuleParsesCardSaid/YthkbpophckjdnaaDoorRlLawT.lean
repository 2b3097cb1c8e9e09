/-
  The walk of RuleTokens.
-/
import Derived.Test.YthkbpophckjdnaaDoorRlKnown
namespace Go.Proofs.YthkbpophckjdnaaDoor
open Go Go.RowKit Go.Shelf Go.Proofs
attribute [local go_sem] Oper.semAt_some

theorem u8_byte (c : Int) (h0 : 0 ≤ c) (h1 : c ≤ 255) : ∃ b : UInt8, (b.toNat : Int) = c := by
  refine ⟨UInt8.ofNat c.toNat, ?_⟩
  rw [UInt8.toNat_ofNat']; omega
theorem data_app (a b : ByteArray) : (a ++ b).data.toList = a.data.toList ++ b.data.toList := by simp [ByteArray.data_append]
theorem app_size (a b : ByteArray) : (a ++ b).size = a.size + b.size := by simp [ByteArray.size_append]

set_option maxRecDepth 100000 in
set_option maxHeartbeats 8000000 in
theorem rtokens_any (s t : ByteArray) (c : Int) (w : World) (hs : s.size ≤ 1000000000000000) (ht : t.size ≤ 1000000000000000) (hc : (Lit.int .u8 c).wf = true) (hm : MaxOk w) :
    Calls Tryd.prog 8 #[.string s, .string t, .int .u8 c] w (RlB true w) := by
  have hc' : IntKind.u8.min ≤ c ∧ c ≤ IntKind.u8.max := by simpa [Lit.wf] using hc
  obtain ⟨b, rfl⟩ := u8_byte c (by have : IntKind.u8.min = 0 := rfl; omega) (by have : IntKind.u8.max = 255 := rfl; omega)
  have HK := Lib.hid (fun (W : World) (hb : Below w.heap.size w W) => rknown_any W (hm.below hb))
  have wsum : IntKind.i64.wrap ((s.size : Int) + (t.size : Int)) = (s.size : Int) + (t.size : Int) := IntWalk.i64_in _ (by omega)
  have HT0 := Lib.hid (fun W => token_any ⟨#[]⟩ W (by decide))
  have HT45 := Lib.hid (fun W => token_any ⟨#[45]⟩ W (by decide))
  rw [show tokenL (ByteArray.mk #[]).data.toList = false from rfl] at HT0
  rw [show tokenL (ByteArray.mk #[45]).data.toList = false from rfl] at HT45
  have HTs := Lib.hid (fun W => token_any s W (by unfold maxLen; omega))
  have HTt := Lib.hid (fun W => token_any t W (by unfold maxLen; omega))
  clear hc hc'
  by_cases hbig : 300 < s.size + t.size
  · have g1 : (300 : Int) < (s.size : Int) + (t.size : Int) := by omega
    clear HTs HTt
    go_enter Tryd.func8, Tryd.ntmps8
    go_wp2_with fail
    refine (HT0.out w).mono ?_
    rintro e w1 ⟨rfl, hb1⟩
    go_wp2_with fail
    refine (HT45.out w1).mono ?_
    rintro e w2 ⟨rfl, hb2⟩
    have hb02 := hb1.trans (hb2.mono hb1.size)
    go_wp2_with fail
    refine (HK.out _ hb02).mono ?_
    rintro e w3 ⟨rfl, hb3⟩
    go_wp2_with fail
    go_ret
    exact ⟨rfl, hb02.trans (hb3.mono hb02.size)⟩
  · have g1 : ¬ (300 : Int) < (s.size : Int) + (t.size : Int) := by omega
    cases hts : tokenL s.data.toList with
    | false =>
      rw [hts] at HTs
      clear HTt
      go_enter Tryd.func8, Tryd.ntmps8
      go_wp2_with fail
      refine (HTs.out w).mono ?_
      rintro e w0 ⟨rfl, hb0⟩
      go_wp2_with fail
      refine (HT0.out w0).mono ?_
      rintro e w1 ⟨rfl, hb1⟩
      have hb1 := hb0.trans (hb1.mono hb0.size)
      go_wp2_with fail
      refine (HT45.out w1).mono ?_
      rintro e w2 ⟨rfl, hb2⟩
      have hb02 := hb1.trans (hb2.mono hb1.size)
      go_wp2_with fail
      refine (HK.out _ hb02).mono ?_
      rintro e w3 ⟨rfl, hb3⟩
      go_wp2_with fail
      go_ret
      exact ⟨rfl, hb02.trans (hb3.mono hb02.size)⟩
    | true =>
      rw [hts] at HTs
      cases htt : tokenL t.data.toList with
      | false =>
        rw [htt] at HTt
        go_enter Tryd.func8, Tryd.ntmps8
        go_wp2_with fail
        refine (HTs.out w).mono ?_
        rintro e w0 ⟨rfl, hb0⟩
        go_wp2_with fail
        refine (HTt.out w0).mono ?_
        rintro e v0 ⟨rfl, hb1⟩
        have hb0 := hb0.trans (hb1.mono hb0.size)
        go_wp2_with fail
        refine (HT0.out v0).mono ?_
        rintro e w1 ⟨rfl, hb1⟩
        have hb1 := hb0.trans (hb1.mono hb0.size)
        go_wp2_with fail
        refine (HT45.out w1).mono ?_
        rintro e w2 ⟨rfl, hb2⟩
        have hb02 := hb1.trans (hb2.mono hb1.size)
        go_wp2_with fail
        refine (HK.out _ hb02).mono ?_
        rintro e w3 ⟨rfl, hb3⟩
        go_wp2_with fail
        go_ret
        exact ⟨rfl, hb02.trans (hb3.mono hb02.size)⟩
      | true =>
        rw [htt] at HTt
        have z1 : (ByteArray.mk #[b]).size = 1 := rfl
        have HT1 := Lib.hid (fun W => token_any ⟨#[b]⟩ W (by unfold maxLen; omega))
        have HT2 := Lib.hid (fun W => token_any (s ++ t) W (by rw [app_size]; unfold maxLen; omega))
        have HT3 := Lib.hid (fun W => token_any (s ++ ⟨#[b]⟩ ++ t) W (by rw [app_size, app_size]; unfold maxLen; omega))
        rw [show tokenL (ByteArray.mk #[b]).data.toList = signL b from token_one b] at HT1
        rw [data_app, token_cat hts htt] at HT2
        rw [data_app, data_app, show (ByteArray.mk #[b]).data.toList = [b] from rfl, token_mid b hts htt] at HT3
        have HSG := Lib.hid (fun W => rsign_byte b W)
        have HCV : ∀ W : World, (convert 45 9 (.slice (some ⟨W.heap.size, 0, none⟩) 1 1)).run Tryd.prog (W.alloc (.cells #[.int .u8 b.toNat] 5)) = .ok (.string ⟨#[b]⟩) (W.alloc (.cells #[.int .u8 b.toNat] 5)) := fun W =>
          run_convert_bytes_back _ 45 9 5 ⟨W.heap.size, 0, none⟩ 1 [b] rfl rfl rfl (fun j hj => by
            obtain rfl : j = 0 := by simpa using hj
            exact cell_one_new W (.int .u8 b.toNat) 5 0 (.int .u8 b.toNat) rfl)
        have HCV := Lib.hid HCV
        clear HT45 z1 hs ht hts htt
        go_enter Tryd.func8, Tryd.ntmps8
        go_wp2_with fail
        refine (HTs.out w).mono ?_
        rintro e w0 ⟨rfl, hb0⟩
        go_wp2_with fail
        refine (HTt.out w0).mono ?_
        rintro e w1 ⟨rfl, hb1⟩
        have hb01 := hb0.trans (hb1.mono hb0.size)
        have HB01 := Lib.hid hb01
        clear hb0 hb1 hb01
        have hcv := HCV.out w1
        go_wp2_with fail
        have HB2 := Lib.hid (HB01.out.alloc HB01.out.size (.cells #[.int .u8 b.toNat] 5))
        clear hcv HB01
        revert HB2
        generalize (w1.alloc (.cells #[.int .u8 b.toNat] 5)) = w2
        intro HB2
        refine (HT1.out w2).mono ?_
        rintro e w3 ⟨rfl, hb3⟩
        have hb03 := HB2.out.trans (hb3.mono HB2.out.size)
        have HB3 := Lib.hid hb03
        clear hb3 hb03 HB2
        go_wp2_with fail
        refine (HT2.out w3).mono ?_
        rintro e w4 ⟨rfl, hb4⟩
        have hb04 := HB3.out.trans (hb4.mono HB3.out.size)
        have HB4 := Lib.hid hb04
        clear hb4 hb04 HB3
        have hcv := HCV.out w4
        go_wp2_with fail
        have HB5 := Lib.hid (HB4.out.alloc HB4.out.size (.cells #[.int .u8 b.toNat] 5))
        clear hcv HB4
        revert HB5
        generalize (w4.alloc (.cells #[.int .u8 b.toNat] 5)) = w5
        intro HB5
        refine (HT3.out w5).mono ?_
        rintro e w6 ⟨rfl, hb6⟩
        have hb06 := HB5.out.trans (hb6.mono HB5.out.size)
        have HB6 := Lib.hid hb06
        clear hb6 hb06 HB5
        have heq : (signL b == signL b) = true := by simp
        go_wp2_with fail
        refine (HSG.out w6).mono ?_
        rintro e w7 ⟨rfl, hb7⟩
        subst hb7
        go_wp2_with fail
        refine (HT0.out w7).mono ?_
        rintro e w8 ⟨rfl, hb8⟩
        have hb08 := HB6.out.trans (hb8.mono HB6.out.size)
        have HB8 := Lib.hid hb08
        clear hb8 hb08 HB6
        go_wp2_with fail
        refine (HK.out _ HB8.out).mono ?_
        rintro e w9 ⟨rfl, hb9⟩
        go_wp2_with fail
        go_ret
        exact ⟨rfl, HB8.out.trans (hb9.mono HB8.out.size)⟩
end Go.Proofs.YthkbpophckjdnaaDoor
