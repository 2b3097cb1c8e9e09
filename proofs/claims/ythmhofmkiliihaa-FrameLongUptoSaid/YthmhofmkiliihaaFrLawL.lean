/-
  The law FrameLong, walked (where Long does not wrap).
-/
import Derived.Test.YthmhofmkiliihaaFrKnown
namespace Go.Proofs.Ythmhofmkiliihaa
open Go Go.RowKit Go.Shelf Go.Proofs

theorem enc_inj {a b : Bs} (ha : a.length ≤ 65536) (h : encF a = encF b) (hb : b.length ≤ 65536) : a = b := by
  have h1 := next_enc (a := a) (t := []) ha
  have h2 := next_enc (a := b) (t := []) hb
  rw [h] at h1
  rw [h1] at h2
  exact Option.some.inj h2
theorem enc_same (a b : Bs) (ha : a.length ≤ 65536) (hb : b.length ≤ 65536) : (encF a == encF b) = (a == b) := by
  by_cases h : a = b
  · subst h; simp
  · have h2 : encF a ≠ encF b := fun e => h (enc_inj ha e hb)
    rw [beq_eq_false_iff_ne.2 h, beq_eq_false_iff_ne.2 h2]
theorem long_each {l : List BX} {n : Nat} (h : longBN l ≤ n) : ∀ x ∈ l, x.b.length ≤ n := fun x hx => by have := longBN_mem hx; omega
theorem next_nil : nextF [] = none := next_short (by simp)

set_option maxHeartbeats 8000000 in
theorem framelong_any (A B C : Option Addr) (ca cb cc : Nat) (a b : Bs) (l : List BX) (w : World) (ha : SlAt w A ca a) (hb : SlAt w B cb b) (hr : BRowAt w C cc l) (hnil : ∀ x ∈ l, x.A = none → x.c = 0) (hsm : a.length + b.length + longBN l ≤ 9223372036854775807) :
    Calls Try.prog 7 #[.slice A a.length ca, .slice B b.length cb, .slice C l.length cc] w fun e w' => e = .returned (.bool true) ∧ Below w.heap.size w w' := by
  have H0 := Lib.hid (long_any l C cc w hr (by omega))
  have w1 : IntKind.i64.wrap ((a.length : Int) + (b.length : Int)) = (a.length : Int) + (b.length : Int) := IntWalk.i64_in _ (by omega)
  have w2 : IntKind.i64.wrap ((a.length : Int) + (b.length : Int) + (longBN l : Int)) = (a.length : Int) + (b.length : Int) + (longBN l : Int) := IntWalk.i64_in _ (by omega)
  by_cases hl : a.length + b.length + longBN l ≤ 1500
  · have q0 : ((1500 : Int) < (a.length : Int) + (b.length : Int) + (longBN l : Int)) = False := eq_false (by omega)
    have hla := encF_length a
    have hlb := encF_length b
    have hes := enc_same a b (by omega) (by omega)
    have hlf := lenF_long l
    have hall : allB (joinF (l.map BX.b)) = l.map BX.b := by
      have := all_join (l.map BX.b) [] (fun x hx => by obtain ⟨y, hy, rfl⟩ := List.mem_map.1 hx; have := longBN_mem hy; omega) next_nil
      rwa [List.append_nil] at this
    have hnext : nextF (encF a ++ joinF (l.map BX.b)) = some a := next_enc (by omega)
    have hjl : (joinF (l.map BX.b)).length = lenF (l.map BX.b) := rfl
    have HA := Lib.hid ha
    have HB := Lib.hid hb
    have HR := Lib.hid hr
    have HNIL := Lib.hid hnil
    have HALL := Lib.hid hall
    have HNEXT := Lib.hid hnext
    have HES := Lib.hid hes
    obtain ⟨J, hJ⟩ : ∃ J, joinF (l.map BX.b) = J := ⟨_, rfl⟩
    rw [hJ] at HALL HNEXT hjl
    obtain ⟨Ea, hEa⟩ : ∃ Ea, encF a = Ea := ⟨_, rfl⟩
    obtain ⟨Eb, hEb⟩ : ∃ Eb, encF b = Eb := ⟨_, rfl⟩
    have HJ := Lib.hid (fun (W : World) (hW : Below w.heap.size w W) => join_any l C cc W (HR.out.below hW) HNIL.out (fun x hx => by have := longBN_mem hx; omega) (by omega))
    have HE1 := Lib.hid (encode_any a A ca)
    have HE2 := Lib.hid (encode_any b B cb)
    rw [hEa] at HE1 HNEXT HES hla
    rw [hEb] at HE2 HES hlb
    rw [hJ] at HJ
    clear ha hb hr hnil hall hnext hes hsm hJ hEa hEb
    go_enter Try.func7, Try.ntmps7
    go_wp2_with fail
    refine H0.out.mono ?_
    clear H0
    rintro e W1 ⟨rfl, hb1⟩
    have H1 := Lib.hid (HE1.out W1 (HA.out.below hb1) (by omega))
    clear HE1
    go_wp2_with fail
    refine H1.out.mono ?_
    clear H1
    rintro e W2 ⟨v2, rfl, ho2, hb2⟩
    have hb02 := hb1.trans (hb2.mono hb1.size)
    obtain ⟨A2, c2, rfl, hs2, _⟩ := ho2.sl
    have H2 := Lib.hid (HE2.out W2 (HB.out.below hb02) (by omega))
    clear HE2 ho2 hb1 hb2
    rw [hla]
    go_wp2_with fail
    refine H2.out.mono ?_
    clear H2
    rintro e W3 ⟨v3, rfl, ho3, hb3⟩
    have hb03 := hb02.trans (hb3.mono hb02.size)
    obtain ⟨A3, c3, rfl, hs3, _⟩ := ho3.sl
    have S2 := hs2.below hb3
    have H3 := Lib.hid (frsame_any Ea Eb A2 A3 c2 c3 W3 S2.bytes hs3.bytes)
    rw [hla, hlb, HES.out] at H3
    have hS2 := Lib.hid S2
    have HB03 := Lib.hid hb03
    clear ho3 hb3 hb02 hs3 hs2 S2 hb03
    rw [hlb]
    go_wp2_with fail
    refine H3.out.mono ?_
    clear H3
    rintro e W4 ⟨rfl, hb4⟩
    have hb04 := HB03.out.trans (hb4.mono HB03.out.size)
    have H4 := Lib.hid (frsame_any a b A B ca cb W4 (HA.out.below hb04).bytes (HB.out.below hb04).bytes)
    have hS2 := Lib.hid (hS2.out.below hb4)
    have HB04 := Lib.hid hb04
    clear hb4 hb04 HB03
    go_wp2_with fail
    refine H4.out.mono ?_
    clear H4
    rintro e W5 ⟨rfl, hb5⟩
    have hb05 := HB04.out.trans (hb5.mono HB04.out.size)
    have H5 := Lib.hid (HJ.out W5 hb05)
    have hS2 := Lib.hid (hS2.out.below hb5)
    have HB05 := Lib.hid hb05
    clear hb5 hb05 HB04 HJ
    go_wp2_with fail
    refine H5.out.mono ?_
    clear H5
    rintro e W6 ⟨v6, rfl, ho6, hb6⟩
    have hb06 := HB05.out.trans (hb6.mono HB05.out.size)
    obtain ⟨A6, c6, rfl, hs6, _⟩ := ho6.sl
    have hS2 := Lib.hid (hS2.out.below hb6)
    have hS6 := Lib.hid hs6
    have HB06 := Lib.hid hb06
    have hlen1 : ([] : Bs).length + Ea.length ≤ 1000000 := by rw [hla]; simp; omega
    have hlen2 : ([] ++ Ea).length + J.length ≤ 1000000 := by rw [List.nil_append, hla]; omega
    clear ho6 hs6 hb6 hb06 HB05
    go_wp2_with (first
      | (at_builtin; refine wpList_appN rfl _ _ rfl rfl (OB.nil w.heap.size W6) rfl hla hS2.out hlen1 HB06.out.size ?_; intro v7 W7 hown7 hgrow7; have HB7 := Lib.hid (below_app HB06.out (OB.nil w.heap.size W6) hgrow7 (Nat.le_refl _) HB06.out.size); have HO7 := Lib.hid hown7; have hbk7 := (Below.refl W6.heap.size W6).grown hgrow7 (Nat.le_refl _) (by intro k hk; cases hk); have hS67 := Lib.hid (hS6.out.below hbk7); clear hown7 hgrow7 hbk7)
      | (at_builtin; refine wpList_appN rfl _ _ rfl rfl HO7.out rfl hjl hS67.out hlen2 HB7.out.size ?_; intro v8 W8 hown8 hgrow8; have HB8 := Lib.hid (below_app HB7.out HO7.out hgrow8 (Nat.le_refl _) HB7.out.size); have HO8 := Lib.hid hown8; clear hown8 hgrow8))
    have ho8 := HO8.out
    rw [List.nil_append] at ho8
    obtain ⟨A8, c8, rfl, hs8, hg8⟩ := ho8.sl
    have l8 : (Ea ++ J).length = 8 + a.length + lenF (l.map BX.b) := by rw [List.length_append, hla, hjl]
    obtain ⟨g, rfl, _⟩ := hg8 (by omega)
    have H8 := Lib.hid (next_any (some ⟨g, 0, none⟩) c8 (Ea ++ J) W8 hs8 (by omega))
    rw [l8] at H8 ⊢
    have S8 := Lib.hid hs8
    have HB8 := HB8
    clear ho8 HO8 hs8 hg8 hS2 hS6 hS67 HO7 HB7 HB06 hlen1 hlen2
    go_wp2_with fail
    refine H8.out.mono ?_
    clear H8
    rintro e W9 ⟨A9, c9, x9, n9, rfl, ho9, hx9, hb9⟩
    obtain ⟨rfl, hn9⟩ : x9 = a ∧ n9 = 8 + a.length := by
      rw [HNEXT.out] at hx9
      rcases hx9 with ⟨h1, h2⟩ | ⟨h1, _⟩
      · cases h1; exact ⟨rfl, h2⟩
      · cases h1
    have e9 : ((n9 : Int) = 8 + (x9.length : Int)) = True := eq_true (by omega)
    have f9 : ((n9 : Int) != 8 + (x9.length : Int)) = false := by simp; omega
    have hb09 := HB8.out.trans (hb9.mono HB8.out.size)
    have S8 := Lib.hid (S8.out.below hb9)
    have H9 := Lib.hid (frsame_any x9 x9 A9 A c9 ca W9 ho9.sl.bytes (HA.out.below hb09).bytes)
    rw [show (x9 == x9) = true by simp] at H9
    have HN9 := Lib.hid hn9
    have HB09 := Lib.hid hb09
    clear hx9 hb9 hb09 ho9 hn9 HB8
    go_wp2_with fail
    refine H9.out.mono ?_
    clear H9
    rintro e W10 ⟨rfl, hb10⟩
    have hb010 := HB09.out.trans (hb10.mono HB09.out.size)
    have S10 := S8.out.below hb10
    obtain ⟨o', hO, hbJ⟩ := bytes_sub (l := n9) S10.bytes (by rw [l8, HN9.out]; omega) S10.cap
    have hR : (if c8 = n9 then (some ⟨g, 0, none⟩ : Option Addr) else some ⟨g, 0 + n9, none⟩) = some ⟨g, o', none⟩ := hO
    rw [Nat.zero_add] at hR
    rw [HN9.out, List.drop_left' hla] at hbJ
    have hc8 := S10.cap
    rw [l8] at hc8
    have t0 : (0 : Int) ≤ (n9 : Int) := by omega
    have t1 : (n9 : Int) ≤ 8 + (x9.length : Int) + (lenF (l.map BX.b) : Int) := by have := HN9.out; omega
    have H10 := Lib.hid (all_any (some ⟨g, o', none⟩) (c8 - n9) J W10 ⟨hbJ, by have := HN9.out; omega, by have := S10.capm; omega, fun e => by cases e⟩ (by omega))
    have el : 8 + x9.length + lenF (l.map BX.b) - n9 = J.length := by rw [HN9.out, hjl]; omega
    have EL := Lib.hid el
    have HB010 := Lib.hid hb010
    clear hb10 hb010 S10 hO hbJ hc8 S8 HB09 el
    go_wp2_with fail
    rw [EL.out]
    refine H10.out.mono ?_
    clear H10
    rintro e W11 ⟨v11, rows, rfl, hR11, hv11, hb11⟩
    have hb011 := HB010.out.trans (hb11.mono HB010.out.size)
    obtain ⟨A11, c11, rfl, hr11⟩ := hR11.slice
    have H11 := Lib.hid (samelists_any rows l A11 C c11 cc W11 hr11 (HR.out.below hb011))
    rw [HALL.out] at hv11 ⊢
    rw [decide_eq_true hv11] at H11
    have HB011 := Lib.hid hb011
    clear hb11 hb011 hR11 hr11 hv11 HB010
    go_wp2_with fail
    refine H11.out.mono ?_
    clear H11
    rintro e W12 ⟨rfl, hb12⟩
    have hb012 := HB011.out.trans (hb12.mono HB011.out.size)
    have H12 := Lib.hid (known_any W12)
    go_wp2_with fail
    refine H12.out.mono ?_
    clear H12
    rintro e W13 ⟨rfl, hb13⟩
    go_wp2_with fail
    go_ret
    exact ⟨rfl, hb012.trans (hb13.mono hb012.size)⟩
  · have q0 : ((1500 : Int) < (a.length : Int) + (b.length : Int) + (longBN l : Int)) = True := eq_true (by omega)
    have H1 := Lib.hid (fun W => known_any W)
    clear ha hb hr hnil
    go_enter Try.func7, Try.ntmps7
    go_wp2_with fail
    refine H0.out.mono ?_
    clear H0
    rintro e W1 ⟨rfl, hb1⟩
    go_wp2_with fail
    refine (H1.out W1).mono ?_
    rintro e w1 ⟨rfl, hb⟩
    go_wp2_with fail
    go_ret
    exact ⟨rfl, hb1.trans (hb.mono hb1.size)⟩
end Go.Proofs.Ythmhofmkiliihaa
