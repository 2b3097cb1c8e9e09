/-
  The walk of RuleBack: what is printed may not be parsed.
-/
import Derived.Test.YtjhdobknhgjdbaaDoorRlLawT
import Derived.Test.YtjhdobknhgjdbaaDoorRlLong
namespace Go.Proofs.YtjhdobknhgjdbaaDoor
open Go Go.RowKit Go.Shelf Go.Proofs
attribute [local go_sem] Oper.semAt_some

theorem right_fits {x : RX} (h : rightU x.ru = true) : x.Fits := by
  obtain ⟨h2, h3, h4, _⟩ := right_kind h
  have h5 := glob_len h2
  have e1 : x.ru.g.length = x.g.size := rl_size _
  have e2 : x.ru.o.length = x.o.size := rl_size _
  have e3 : x.ru.n.length = x.n.size := rl_size _
  constructor <;> unfold maxLen <;> omega

set_option maxRecDepth 100000 in
set_option maxHeartbeats 16000000 in
theorem rback_bad (L : List RX) (A : Option Addr) (c : Nat) (s : ByteArray) (w : World) (h : RulesAt w A c L) (ht : ∀ x ∈ L, x.Tiny) (h50 : L.length ≤ 50) (h25 : longU (rusX L) ≤ 2500) (hs : s.size ≤ 1500) (hm : MaxOk w) (hpn : ¬ (printU (rusX L)).1 = 0) :
    Calls Tryd.prog 5 #[.slice A L.length c, .string s] w (RlB true w) := by
  have HK := Lib.hid (fun (W : World) (hb : Below w.heap.size w W) => rknown_any W (hm.below hb))
  have HMX := Lib.hid (fun (W : World) (hb : Below w.heap.size w W) => hm.below hb)
  have HF := Lib.hid ht
  have HR0 := Lib.hid h
  clear h ht hm
  have g1 : ¬ (50 : Int) < (L.length : Int) := by omega
  have HL := Lib.hid (rlong_any L A c w HR0.out (by omega) HF.out)
  have hlen := fun hr => textU_len (rusX L) hr
  obtain ⟨q, hq⟩ : ∃ q, longU (rusX L) = q := ⟨_, rfl⟩
  rw [hq] at HL hlen h25
  have HLEN := Lib.hid hlen
  clear hlen hq
  have g2 : ¬ (2500 : Int) < (q : Int) := by omega
  have g3 : ¬ (1500 : Int) < (s.size : Int) := by omega
  have HS := Lib.hid (show s.size ≤ 1500 by omega)
  have HPS := Lib.hid (fun (W : World) (hb : Below w.heap.size w W) => rparse_all s W (by unfold maxLen; omega) (HMX.out W hb))
  have H25 := Lib.hid h25
  clear hs h25
  obtain ⟨a, ha⟩ : ∃ a, mkB (printU (rusX L)).2 = a := ⟨_, rfl⟩
  have had : a.data.toList = (printU (rusX L)).2 := by rw [← ha, mkB_data]
  have HPR := Lib.hid (fun (W : World) (hb : Below w.heap.size w W) => print_any A c L W (HR0.out.below hb) (fun x hx => (HF.out x hx).fits) (HMX.out W hb))
  rw [ha] at HPR
  have HAD := Lib.hid had
  clear ha had
  have hpe : ((printU (rusX L)).1 == 0) = false := by simpa using hpn
  clear hpn HAD
  go_enter Tryd.func5, Tryd.ntmps5
  go_wp2_with fail
  refine HL.out.mono ?_
  rintro e w1 ⟨rfl, hb⟩
  have HB1 := Lib.hid hb
  clear hb HL HLEN H25
  go_wp2_with fail
  refine (HPR.out _ HB1.out).mono ?_
  rintro e w2 ⟨rfl, hb⟩
  have HB0 := Lib.hid (HB1.out.trans (hb.mono HB1.out.size))
  clear hb HPR HB1
  go_wp2_with fail
  refine (HPS.out _ HB0.out).mono ?_
  rintro e w5 ⟨A5, c5, l5, rfl, r5, x5, hb⟩
  have HB5 := Lib.hid (HB0.out.trans (hb.mono HB0.out.size))
  have R5 := Lib.hid r5
  have X5 := Lib.hid x5
  have hl5 : l5.length ≤ maxLen := Nat.le_trans r5.cap r5.capm
  unfold maxLen at hl5
  clear hb r5 x5 HB0
  by_cases hg : (parseU s.data.toList).1 = 0
  · rw [hg]
    obtain ⟨k1, k2, k3, k4⟩ := print_parse hg (by rw [rl_size]; have := HS.out; omega)
    rw [← X5.out] at k1 k2 k3 k4
    have HRT := Lib.hid (fun (i : Nat) (x : RX) (hx : l5[i]? = some x) => (k1 x.ru (List.mem_map.2 ⟨x, List.mem_of_getElem? hx, rfl⟩)))
    have HP5 := Lib.hid (print_any A5 c5 l5 w5 R5.out (fun x hx => right_fits (k1 x.ru (List.mem_map.2 ⟨x, hx, rfl⟩))) (HMX.out _ HB5.out))
    rw [k2] at HP5
    obtain ⟨b, hb⟩ : ∃ b, mkB (textU (rusX l5)) = b := ⟨_, rfl⟩
    have hbd : b.data.toList = textU (rusX l5) := by rw [← hb, mkB_data]
    have hbl : b.size ≤ 1501 := by rw [← rl_size, hbd]; exact k3
    have hpb : parseU b.data.toList = (0, rusX l5) := by rw [hbd]; exact k4
    rw [show (mkB ((0 : Int), textU (rusX l5)).2) = b from hb] at HP5
    have HPB := Lib.hid (fun (W : World) (hb : Below w.heap.size w W) => rparse_all b W (by unfold maxLen; omega) (HMX.out W hb))
    rw [hpb] at HPB
    clear k1 k2 k3 k4 hb hbd hpb hbl hg
    go_wp2_with fail
    refine HP5.out.mono ?_
    rintro e w6 ⟨rfl, hb⟩
    have HB6 := Lib.hid (HB5.out.trans (hb.mono HB5.out.size))
    have R6 := Lib.hid (R5.out.below hb)
    clear hb R5 HB5 HP5
    go_wp2_with fail
    refine (HPB.out _ HB6.out).mono ?_
    rintro e w7 ⟨A7, c7, l7, rfl, r7, x7, hb⟩
    have HB7 := Lib.hid (HB6.out.trans (hb.mono HB6.out.size))
    have R7 := Lib.hid (R6.out.below hb)
    have Q7 := Lib.hid r7
    have X7 := Lib.hid x7
    clear hb R6 HB6 HPB r7 x7
    go_wp2_with fail
    go_loopw [15] (fun i wr => ∃ k : Nat, k ≤ l5.length ∧ i = .int .i64 k ∧ Below w7.heap.size w7 wr) (fun i _ => l5.length - (intOf i).toNat)
    case atStart => exact ⟨0, Nat.zero_le _, rfl, Below.refl _ _⟩
    case round =>
      obtain ⟨k, hk, rfl, hbr⟩ := hrel
      have HBR := Lib.hid (HB7.out.trans (hbr.mono HB7.out.size))
      by_cases h1 : k < l5.length
      · obtain ⟨x, hx⟩ : ∃ x, l5[k]? = some x := ⟨_, List.getElem?_eq_getElem h1⟩
        obtain ⟨g, o, hA, hr⟩ := (R7.out.below hbr).row (by omega)
        subst hA
        obtain ⟨c0, c1, c2, c3⟩ := hr k x hx
        have g1 : (k : Int) < (l5.length : Int) := by omega
        have hrt := HRT.out k x hx
        have hfx := right_fits hrt
        have HR := Lib.hid (right_rule x wr hfx.g hfx.o hfx.n (HMX.out _ HBR.out))
        rw [hrt] at HR
        clear hr hx hrt hfx
        have HBR7 := Lib.hid hbr
        clear hbr
        go_wp2_with fail
        refine HR.out.mono ?_
        rintro e w8 ⟨rfl, hb⟩
        have HB8 := Lib.hid (HBR7.out.trans (hb.mono HBR7.out.size))
        clear hb
        go_wp2_with fail
        go_roundw
        case rel => exact ⟨k + 1, by omega, by go_num, HB8.out⟩
        case measure => simp [intOf]; omega
      · obtain rfl : k = l5.length := by omega
        have HSM := Lib.hid (rsame_any l5 l7 A5 A7 c5 c7 wr true (R7.out.below hbr) (Q7.out.below hbr) ⟨fun _ => X7.out.symm, fun _ => rfl⟩)
        clear hbr
        go_wp2_with fail
        refine HSM.out.mono ?_
        rintro e w8 ⟨rfl, hb⟩
        have HB := Lib.hid (HBR.out.trans (hb.mono HBR.out.size))
        clear hb
        go_wp2_with fail
        refine (HK.out _ HB.out).mono ?_
        rintro e y ⟨rfl, hb⟩
        go_wp2_with fail
        go_ret
        exact ⟨rfl, HB.out.trans (hb.mono HB.out.size)⟩
  · have hnl : l5 = [] := by
      have h1 := parse_bad hg
      rw [h1] at X5
      have h2 := congrArg List.length X5.out
      rw [rusX_length] at h2
      exact List.eq_nil_of_length_eq_zero h2
    have hne : ((parseU s.data.toList).1 != 0) = true := by simpa using hg
    subst hnl
    clear hg hl5
    have HB := HB5
    clear HB5
    go_wp2_with fail
    refine (HK.out _ HB.out).mono ?_
    rintro e y ⟨rfl, hb⟩
    go_wp2_with fail
    go_ret
    exact ⟨rfl, HB.out.trans (hb.mono HB.out.size)⟩
end Go.Proofs.YtjhdobknhgjdbaaDoor
