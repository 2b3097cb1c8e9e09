/-
  The walk of RuleWrong.
-/
import Derived.Test.YtjhdobknhgjdbaaDoorRlLong
import Derived.Test.YtjhdobknhgjdbaaDoorRlLawT
namespace Go.Proofs.YtjhdobknhgjdbaaDoor
open Go Go.RowKit Go.Shelf Go.Proofs
attribute [local go_sem] Oper.semAt_some

def oddT : List ByteArray := [⟨#[114, 101, 112, 108, 97, 99, 101]⟩, ⟨#[120, 32, 42, 42, 32, 97, 32, 98]⟩, ⟨#[114, 101, 112, 108, 97, 99, 101, 32, 42, 42, 32, 97, 45, 98, 32, 99]⟩, ⟨#[114, 101, 109, 111, 118, 101]⟩, ⟨#[114, 101, 109, 111, 118, 101, 32, 42, 42, 32, 97]⟩, ⟨#[115, 116, 114, 105, 107, 101, 32, 42, 42, 32, 97, 32, 98]⟩]
theorem odd_none : ∀ o ∈ oddT, linesU (splitL 10 o.data.toList) = none := by
  intro o ho
  simp only [oddT, List.mem_cons, List.mem_nil_iff, or_false] at ho
  rcases ho with rfl | rfl | rfl | rfl | rfl | rfl <;> kernel_rfl
theorem odd_size : ∀ o ∈ oddT, o.size ≤ 20 := by
  intro o ho
  simp only [oddT, List.mem_cons, List.mem_nil_iff, or_false] at ho
  rcases ho with rfl | rfl | rfl | rfl | rfl | rfl <;> decide
theorem odd_at (W : World) (t : TypeId) {j : Nat} {o : ByteArray} (h : oddT[j]? = some o) : (W.alloc (.cells #[.string ⟨#[114, 101, 112, 108, 97, 99, 101]⟩, .string ⟨#[120, 32, 42, 42, 32, 97, 32, 98]⟩, .string ⟨#[114, 101, 112, 108, 97, 99, 101, 32, 42, 42, 32, 97, 45, 98, 32, 99]⟩, .string ⟨#[114, 101, 109, 111, 118, 101]⟩, .string ⟨#[114, 101, 109, 111, 118, 101, 32, 42, 42, 32, 97]⟩, .string ⟨#[115, 116, 114, 105, 107, 101, 32, 42, 42, 32, 97, 32, 98]⟩] t)).cell? ⟨W.heap.size, j, none⟩ = some (.string o) := by
  have hn := heap_alloc_new W (.cells #[.string ⟨#[114, 101, 112, 108, 97, 99, 101]⟩, .string ⟨#[120, 32, 42, 42, 32, 97, 32, 98]⟩, .string ⟨#[114, 101, 112, 108, 97, 99, 101, 32, 42, 42, 32, 97, 45, 98, 32, 99]⟩, .string ⟨#[114, 101, 109, 111, 118, 101]⟩, .string ⟨#[114, 101, 109, 111, 118, 101, 32, 42, 42, 32, 97]⟩, .string ⟨#[115, 116, 114, 105, 107, 101, 32, 42, 42, 32, 97, 32, 98]⟩] t)
  rw [cell_of_row _ _ _ _ _ _ hn]
  match j, h with
  | 0, h => cases h; rfl
  | 1, h => cases h; rfl
  | 2, h => cases h; rfl
  | 3, h => cases h; rfl
  | 4, h => cases h; rfl
  | 5, h => cases h; rfl
  | j + 6, h => simp [oddT] at h
theorem longU_append (a b : List Ru) : longU (a ++ b) = longU a + longU b := by unfold longU; rw [List.map_append, List.sum_append]
theorem rules_take {w : World} {A : Option Addr} {c : Nat} {L : List RX} (h : RulesAt w A c L) (k : Nat) : RulesAt w A c (L.take k) :=
  ⟨by have := h.cap; rw [List.length_take]; omega, h.capm, fun hn => by
    rw [List.length_take] at hn
    obtain ⟨g, o, e, hr⟩ := h.row (by omega)
    exact ⟨g, o, e, fun i x hx => by
      rw [List.getElem?_take] at hx
      split at hx
      · exact hr i x hx
      · cases hx⟩⟩
theorem rules_drop {w : World} {a : Addr} {c : Nat} {L : List RX} (h : RulesAt w (some a) c L) (k : Nat) : RulesAt w (if c = k then some a else some (a.add (k * 4))) (c - k) (L.drop k) := by
  have hc := h.cap
  refine ⟨by rw [List.length_drop]; omega, by have := h.capm; omega, fun hn => ?_⟩
  rw [List.length_drop] at hn
  obtain ⟨g, o, e, hr⟩ := h.row (by omega)
  cases e
  rw [if_neg (by omega), Go.WideShapes.add_plain]
  refine ⟨g, o + k * 4, rfl, fun i x hx => ?_⟩
  rw [List.getElem?_drop] at hx
  have := hr (k + i) x hx
  rwa [show o + k * 4 + i * 4 = o + (k + i) * 4 from by omega]
theorem rules_none {w : World} {c : Nat} {L : List RX} (h : RulesAt w none c L) : L = [] := by
  cases L with
  | nil => rfl
  | cons x l => obtain ⟨g, o, e, _⟩ := h.row (by simp); cases e
theorem wrong_text {P R : List Ru} {o : Bs} (hp : (printU P).1 = 0) (hr : (printU R).1 = 0) (hz : longU (P ++ R) ≤ 1000) (ho : linesU (splitL 10 o) = none) (hl : o.length ≤ 20) :
    parseU ((printU P).2 ++ o ++ [10] ++ (printU R).2) = (11, []) := by
  rw [longU_append] at hz
  obtain ⟨p1, _, p3⟩ := print_ok hp
  obtain ⟨q1, _, q3⟩ := print_ok hr
  have l1 := textU_len P p1
  have l2 := textU_len R q1
  have := parse_odd hp (b := R) ho (by rw [p3, q3]; simp only [List.length_append, List.length_cons]; omega)
  rw [← this]
  simp

set_option maxRecDepth 100000 in
set_option maxHeartbeats 16000000 in
theorem rwrong_small (L : List RX) (A : Option Addr) (c : Nat) (n a : Int) (w : World) (h : RulesAt w A c L) (ht : ∀ x ∈ L, x.Tiny) (hn : (Lit.int .u8 n).wf = true) (ha : (Lit.int .u8 a).wf = true) (hm : MaxOk w) (h20 : L.length ≤ 20) (h10 : longU (rusX L) ≤ 1000) :
    Calls Tryd.prog 10 #[.slice A L.length c, .int .u8 n, .int .u8 a] w (RlB true w) := by
  have HK := Lib.hid (fun (W : World) (hb : Below w.heap.size w W) => rknown_any W (hm.below hb))
  have HMX := Lib.hid (fun (W : World) (hb : Below w.heap.size w W) => hm.below hb)
  have hn' : IntKind.u8.min ≤ n ∧ n ≤ IntKind.u8.max := by simpa [Lit.wf] using hn
  have ha' : IntKind.u8.min ≤ a ∧ a ≤ IntKind.u8.max := by simpa [Lit.wf] using ha
  have n0 : 0 ≤ n := by have : IntKind.u8.min = 0 := rfl; omega
  have n1 : n ≤ 255 := by have : IntKind.u8.max = 255 := rfl; omega
  have a0 : 0 ≤ a := by have : IntKind.u8.min = 0 := rfl; omega
  have a1 : a ≤ 255 := by have : IntKind.u8.max = 255 := rfl; omega
  clear hn ha hn' ha'
  have HL := Lib.hid (rlong_any L A c w h (by omega) ht)
  obtain ⟨q, hq⟩ : ∃ q, longU (rusX L) = q := ⟨_, rfl⟩
  rw [hq] at HL
  have HQ := Lib.hid (show longU (rusX L) ≤ 1000 by omega)
  have g1 : ¬ (20 : Int) < (L.length : Int) := by omega
  have g2 : ¬ (1000 : Int) < (q : Int) := by omega
  have wl : IntKind.i64.wrap ((L.length : Int) + 1) = (L.length : Int) + 1 := IntWalk.i64_in _ (by omega)
  have nz : ¬ ((L.length : Int) + 1 = 0) := by omega
  obtain ⟨k, hk⟩ : ∃ k : Nat, a % ((L.length : Int) + 1) = (k : Int) := ⟨(a % ((L.length : Int) + 1)).toNat, by
    have := Int.emod_nonneg a nz; omega⟩
  have hkl : k ≤ L.length := by
    have := Int.emod_lt_of_pos a (show (0 : Int) < (L.length : Int) + 1 by omega); omega
  obtain ⟨j, hj⟩ : ∃ j : Nat, n % 6 = (j : Int) := ⟨(n % 6).toNat, by omega⟩
  have hj6 : j < 6 := by omega
  have j6 : (j : Int) < 6 := by omega
  obtain ⟨od, hod⟩ : ∃ o, oddT[j]? = some o := ⟨_, List.getElem?_eq_getElem (by show j < 6; omega)⟩
  have HOD := Lib.hid (And.intro (odd_none od (List.mem_of_getElem? hod)) (odd_size od (List.mem_of_getElem? hod)))
  have HAT := Lib.hid (fun W : World => odd_at W 9 hod)
  clear hq hod h10
  cases A with
  | none =>
    obtain rfl := rules_none h
    obtain rfl : k = 0 := by simpa using hkl
    have HPA := Lib.hid (fun (W : World) (hb : Below w.heap.size w W) => print_any none c [] W (RulesAt.nil _ _ _ h.capm) (fun x hx => by cases hx) (HMX.out W hb))
    have HPB := HPA
    have HQT := Lib.hid (show longU (rusX []) ≤ 1000 by decide)
    have HQD := HQT
    have hcap := h.capm
    unfold maxLen at hcap
    clear h ht hm
    · · have hpe : (printU (rusX [])).1 = 0 := by kernel_rfl
        have HPE := Lib.hid hpe
        have HRE := HPE
        rw [hpe] at HPA
        rw [hpe] at HPB
        clear hpe
        obtain ⟨s1, hs1⟩ : ∃ s, mkB (printU (rusX [])).2 = s := ⟨_, rfl⟩
        obtain ⟨s2, hs2⟩ : ∃ s, mkB (printU (rusX [])).2 = s := ⟨_, rfl⟩
        have hd1 : s1.data.toList = (printU (rusX [])).2 := by rw [← hs1, mkB_data]
        have hd2 : s2.data.toList = (printU (rusX [])).2 := by rw [← hs2, mkB_data]
        simp only [hs1] at HPA
        simp only [hs2] at HPB
        obtain ⟨t, htt⟩ : ∃ t, s1 ++ od ++ ⟨#[10]⟩ ++ s2 = t := ⟨_, rfl⟩
        have hpt : parseU t.data.toList = (11, []) := by
          rw [← htt, data_app, data_app, data_app, hd1, hd2]
          exact wrong_text HPE.out HRE.out (by have := HQ.out; show longU [] ≤ 1000; decide) HOD.out.1 (by rw [rl_size]; exact HOD.out.2)
        have l1 : s1.size ≤ 1000000 := by
          obtain ⟨p1, _, p3⟩ := print_ok HPE.out
          have l := textU_len _ p1
          rw [← rl_size, hd1, p3]
          have := HQT.out
          omega
        have l2 : s2.size ≤ 1000000 := by
          obtain ⟨p1, _, p3⟩ := print_ok HRE.out
          have l := textU_len _ p1
          rw [← rl_size, hd2, p3]
          have := HQD.out
          omega
        have l3 := HOD.out.2
        have htz : t.size ≤ 4294967296 := by
          have z1 : (ByteArray.mk #[10]).size = 1 := rfl
          rw [← htt, app_size, app_size, app_size]
          omega
        have HPT := Lib.hid (fun (W : World) (hb : Below w.heap.size w W) => rparse_all t W (by unfold maxLen; omega) (HMX.out W hb))
        rw [hpt] at HPT
        have HTT := Lib.hid htt
        clear hs1 hs2 hd1 hd2 htt hpt htz HPE HRE
        go_enter Tryd.func10, Tryd.ntmps10
        go_wp2_with fail
        refine HL.out.mono ?_
        rintro e w1 ⟨rfl, hb⟩
        have HB1 := Lib.hid hb
        clear hb HL
        go_wp2_with fail
        refine (HPA.out _ HB1.out).mono ?_
        rintro e w2 ⟨rfl, hb⟩
        have HB2 := Lib.hid (HB1.out.trans (hb.mono HB1.out.size))
        clear hb HPA HB1
        go_wp2_with fail
        try rw [hA1]
        refine (HPB.out _ HB2.out).mono ?_
        rintro e w3 ⟨rfl, hb⟩
        have HB := Lib.hid (HB2.out.trans (hb.mono HB2.out.size))
        clear hb HPB HB2
        have hat := HAT.out w3
        go_wp2_with fail
        rw [HTT.out]
        have HB' := Lib.hid (HB.out.alloc HB.out.size (.cells #[.string ⟨#[114, 101, 112, 108, 97, 99, 101]⟩, .string ⟨#[120, 32, 42, 42, 32, 97, 32, 98]⟩, .string ⟨#[114, 101, 112, 108, 97, 99, 101, 32, 42, 42, 32, 97, 45, 98, 32, 99]⟩, .string ⟨#[114, 101, 109, 111, 118, 101]⟩, .string ⟨#[114, 101, 109, 111, 118, 101, 32, 42, 42, 32, 97]⟩, .string ⟨#[115, 116, 114, 105, 107, 101, 32, 42, 42, 32, 97, 32, 98]⟩] 9))
        clear hat HB
        revert HB'
        generalize (w3.alloc (.cells #[.string ⟨#[114, 101, 112, 108, 97, 99, 101]⟩, .string ⟨#[120, 32, 42, 42, 32, 97, 32, 98]⟩, .string ⟨#[114, 101, 112, 108, 97, 99, 101, 32, 42, 42, 32, 97, 45, 98, 32, 99]⟩, .string ⟨#[114, 101, 109, 111, 118, 101]⟩, .string ⟨#[114, 101, 109, 111, 118, 101, 32, 42, 42, 32, 97]⟩, .string ⟨#[115, 116, 114, 105, 107, 101, 32, 42, 42, 32, 97, 32, 98]⟩] 9)) = w4
        intro HB4
        refine (HPT.out _ HB4.out).mono ?_
        rintro e w5 ⟨A5, c5, l5, rfl, _, x5, hb⟩
        have HB := Lib.hid (HB4.out.trans (hb.mono HB4.out.size))
        obtain rfl : l5 = [] := by
          have h2 := congrArg List.length x5
          rw [rusX_length] at h2
          exact List.eq_nil_of_length_eq_zero h2
        clear hb x5 HB4
        go_wp2_with fail
        refine (HK.out _ HB.out).mono ?_
        rintro e y ⟨rfl, hb⟩
        go_wp2_with fail
        go_ret
        exact ⟨rfl, HB.out.trans (hb.mono HB.out.size)⟩
  | some p =>
    have hc := h.cap
    have hcap := h.capm
    unfold maxLen at hcap
    have k1 : (k : Int) ≤ (L.length : Int) := by omega
    have k2 : (L.length : Int) ≤ (c : Int) := by omega
    have k3 : (k : Int) ≤ (c : Int) := by omega
    have k0 : (0 : Int) ≤ (k : Int) := by omega
    have e1 : (L.take k).length = k := by rw [List.length_take]; omega
    have e2 : (L.drop k).length = L.length - k := List.length_drop
    obtain ⟨A1, hA1⟩ : ∃ A1, (if c = k then some p else some (p.add (k * 4))) = A1 := ⟨_, rfl⟩
    have HPA := Lib.hid (fun (W : World) (hb : Below w.heap.size w W) => print_any (some p) c (L.take k) W ((rules_take h k).below hb) (fun x hx => (ht x (List.mem_of_mem_take hx)).fits) (HMX.out W hb))
    have hrd := rules_drop h k
    rw [hA1] at hrd
    have HPB := Lib.hid (fun (W : World) (hb : Below w.heap.size w W) => print_any A1 (c - k) (L.drop k) W (hrd.below hb) (fun x hx => (ht x (List.mem_of_mem_drop hx)).fits) (HMX.out W hb))
    rw [e1] at HPA
    rw [e2] at HPB
    have hsum : longU (rusX (L.take k)) + longU (rusX (L.drop k)) ≤ 1000 := by rw [← longU_append, ← rusX_append, List.take_append_drop]; exact HQ.out
    have HQT := Lib.hid (show longU (rusX (L.take k)) ≤ 1000 by omega)
    have HQD := Lib.hid (show longU (rusX (L.drop k)) ≤ 1000 by omega)
    clear h ht hm e1 e2 hrd hsum hc
    cases hpa : decide ((printU (rusX (L.take k))).1 = 0) with
    | false =>
      have hpe : ((printU (rusX (L.take k))).1 != 0) = true := by simpa using of_decide_eq_false hpa
      clear hpa
      go_enter Tryd.func10, Tryd.ntmps10
      go_wp2_with fail
      refine HL.out.mono ?_
      rintro e w1 ⟨rfl, hb⟩
      have HB1 := Lib.hid hb
      clear hb HL
      go_wp2_with fail
      refine (HPA.out _ HB1.out).mono ?_
      rintro e w2 ⟨rfl, hb⟩
      have HB2 := Lib.hid (HB1.out.trans (hb.mono HB1.out.size))
      clear hb HPA HB1
      go_wp2_with fail
      try rw [hA1]
      refine (HPB.out _ HB2.out).mono ?_
      rintro e w3 ⟨rfl, hb⟩
      have HB := Lib.hid (HB2.out.trans (hb.mono HB2.out.size))
      clear hb HPB HB2
      go_wp2_with fail
      refine (HK.out _ HB.out).mono ?_
      rintro e y ⟨rfl, hb⟩
      go_wp2_with fail
      go_ret
      exact ⟨rfl, HB.out.trans (hb.mono HB.out.size)⟩
    | true =>
      have hpe := of_decide_eq_true hpa
      have HPE := Lib.hid hpe
      rw [hpe] at HPA
      clear hpa hpe
      cases hra : decide ((printU (rusX (L.drop k))).1 = 0) with
      | false =>
        have hpe : ((printU (rusX (L.drop k))).1 != 0) = true := by simpa using of_decide_eq_false hra
        clear hra
        go_enter Tryd.func10, Tryd.ntmps10
        go_wp2_with fail
        refine HL.out.mono ?_
        rintro e w1 ⟨rfl, hb⟩
        have HB1 := Lib.hid hb
        clear hb HL
        go_wp2_with fail
        refine (HPA.out _ HB1.out).mono ?_
        rintro e w2 ⟨rfl, hb⟩
        have HB2 := Lib.hid (HB1.out.trans (hb.mono HB1.out.size))
        clear hb HPA HB1
        go_wp2_with fail
        try rw [hA1]
        refine (HPB.out _ HB2.out).mono ?_
        rintro e w3 ⟨rfl, hb⟩
        have HB := Lib.hid (HB2.out.trans (hb.mono HB2.out.size))
        clear hb HPB HB2
        go_wp2_with fail
        refine (HK.out _ HB.out).mono ?_
        rintro e y ⟨rfl, hb⟩
        go_wp2_with fail
        go_ret
        exact ⟨rfl, HB.out.trans (hb.mono HB.out.size)⟩
      | true =>
        have hre := of_decide_eq_true hra
        have HRE := Lib.hid hre
        rw [hre] at HPB
        clear hra hre
        obtain ⟨s1, hs1⟩ : ∃ s, mkB (printU (rusX (L.take k))).2 = s := ⟨_, rfl⟩
        obtain ⟨s2, hs2⟩ : ∃ s, mkB (printU (rusX (L.drop k))).2 = s := ⟨_, rfl⟩
        have hd1 : s1.data.toList = (printU (rusX (L.take k))).2 := by rw [← hs1, mkB_data]
        have hd2 : s2.data.toList = (printU (rusX (L.drop k))).2 := by rw [← hs2, mkB_data]
        simp only [hs1] at HPA
        simp only [hs2] at HPB
        obtain ⟨t, htt⟩ : ∃ t, s1 ++ od ++ ⟨#[10]⟩ ++ s2 = t := ⟨_, rfl⟩
        have hpt : parseU t.data.toList = (11, []) := by
          rw [← htt, data_app, data_app, data_app, hd1, hd2]
          exact wrong_text HPE.out HRE.out (by have := HQ.out; rw [← rusX_append, List.take_append_drop]; omega) HOD.out.1 (by rw [rl_size]; exact HOD.out.2)
        have l1 : s1.size ≤ 1000000 := by
          obtain ⟨p1, _, p3⟩ := print_ok HPE.out
          have l := textU_len _ p1
          rw [← rl_size, hd1, p3]
          have := HQT.out
          omega
        have l2 : s2.size ≤ 1000000 := by
          obtain ⟨p1, _, p3⟩ := print_ok HRE.out
          have l := textU_len _ p1
          rw [← rl_size, hd2, p3]
          have := HQD.out
          omega
        have l3 := HOD.out.2
        have htz : t.size ≤ 4294967296 := by
          have z1 : (ByteArray.mk #[10]).size = 1 := rfl
          rw [← htt, app_size, app_size, app_size]
          omega
        have HPT := Lib.hid (fun (W : World) (hb : Below w.heap.size w W) => rparse_all t W (by unfold maxLen; omega) (HMX.out W hb))
        rw [hpt] at HPT
        have HTT := Lib.hid htt
        clear hs1 hs2 hd1 hd2 htt hpt htz HPE HRE
        go_enter Tryd.func10, Tryd.ntmps10
        go_wp2_with fail
        refine HL.out.mono ?_
        rintro e w1 ⟨rfl, hb⟩
        have HB1 := Lib.hid hb
        clear hb HL
        go_wp2_with fail
        refine (HPA.out _ HB1.out).mono ?_
        rintro e w2 ⟨rfl, hb⟩
        have HB2 := Lib.hid (HB1.out.trans (hb.mono HB1.out.size))
        clear hb HPA HB1
        go_wp2_with fail
        try rw [hA1]
        refine (HPB.out _ HB2.out).mono ?_
        rintro e w3 ⟨rfl, hb⟩
        have HB := Lib.hid (HB2.out.trans (hb.mono HB2.out.size))
        clear hb HPB HB2
        have hat := HAT.out w3
        go_wp2_with fail
        rw [HTT.out]
        have HB' := Lib.hid (HB.out.alloc HB.out.size (.cells #[.string ⟨#[114, 101, 112, 108, 97, 99, 101]⟩, .string ⟨#[120, 32, 42, 42, 32, 97, 32, 98]⟩, .string ⟨#[114, 101, 112, 108, 97, 99, 101, 32, 42, 42, 32, 97, 45, 98, 32, 99]⟩, .string ⟨#[114, 101, 109, 111, 118, 101]⟩, .string ⟨#[114, 101, 109, 111, 118, 101, 32, 42, 42, 32, 97]⟩, .string ⟨#[115, 116, 114, 105, 107, 101, 32, 42, 42, 32, 97, 32, 98]⟩] 9))
        clear hat HB
        revert HB'
        generalize (w3.alloc (.cells #[.string ⟨#[114, 101, 112, 108, 97, 99, 101]⟩, .string ⟨#[120, 32, 42, 42, 32, 97, 32, 98]⟩, .string ⟨#[114, 101, 112, 108, 97, 99, 101, 32, 42, 42, 32, 97, 45, 98, 32, 99]⟩, .string ⟨#[114, 101, 109, 111, 118, 101]⟩, .string ⟨#[114, 101, 109, 111, 118, 101, 32, 42, 42, 32, 97]⟩, .string ⟨#[115, 116, 114, 105, 107, 101, 32, 42, 42, 32, 97, 32, 98]⟩] 9)) = w4
        intro HB4
        refine (HPT.out _ HB4.out).mono ?_
        rintro e w5 ⟨A5, c5, l5, rfl, _, x5, hb⟩
        have HB := Lib.hid (HB4.out.trans (hb.mono HB4.out.size))
        obtain rfl : l5 = [] := by
          have h2 := congrArg List.length x5
          rw [rusX_length] at h2
          exact List.eq_nil_of_length_eq_zero h2
        clear hb x5 HB4
        go_wp2_with fail
        refine (HK.out _ HB.out).mono ?_
        rintro e y ⟨rfl, hb⟩
        go_wp2_with fail
        go_ret
        exact ⟨rfl, HB.out.trans (hb.mono HB.out.size)⟩
set_option maxRecDepth 100000 in
set_option maxHeartbeats 16000000 in
theorem rwrong_any (L : List RX) (A : Option Addr) (c : Nat) (n a : Int) (w : World) (h : RulesAt w A c L) (ht : ∀ x ∈ L, x.Tiny) (hn : (Lit.int .u8 n).wf = true) (ha : (Lit.int .u8 a).wf = true) (hm : MaxOk w) :
    Calls Tryd.prog 10 #[.slice A L.length c, .int .u8 n, .int .u8 a] w (RlB true w) := by
  have hL : L.length ≤ maxLen := Nat.le_trans h.cap h.capm
  unfold maxLen at hL
  have HK := Lib.hid (fun (W : World) (hb : Below w.heap.size w W) => rknown_any W (hm.below hb))
  by_cases h20 : 20 < L.length
  · have g1 : (20 : Int) < (L.length : Int) := by omega
    have HB := Lib.hid (Below.refl w.heap.size w)
    clear h ht hm
    go_enter Tryd.func10, Tryd.ntmps10
    go_wp2_with fail
    refine (HK.out _ HB.out).mono ?_
    rintro e y ⟨rfl, hb⟩
    go_wp2_with fail
    go_ret
    exact ⟨rfl, HB.out.trans (hb.mono HB.out.size)⟩
  · have g1 : ¬ (20 : Int) < (L.length : Int) := by omega
    by_cases h10 : 1000 < longU (rusX L)
    · have HL := Lib.hid (rlong_any L A c w h (by omega) ht)
      obtain ⟨q, hq⟩ : ∃ q, longU (rusX L) = q := ⟨_, rfl⟩
      rw [hq] at HL h10
      have g2 : (1000 : Int) < (q : Int) := by omega
      clear h ht hm hq
      go_enter Tryd.func10, Tryd.ntmps10
      go_wp2_with fail
      refine HL.out.mono ?_
      rintro e w1 ⟨rfl, hb⟩
      have HB := Lib.hid hb
      clear hb
      go_wp2_with fail
      refine (HK.out _ HB.out).mono ?_
      rintro e y ⟨rfl, hb⟩
      go_wp2_with fail
      go_ret
      exact ⟨rfl, HB.out.trans (hb.mono HB.out.size)⟩
    · exact rwrong_small L A c n a w h ht hn ha hm (by omega) (by omega)
end Go.Proofs.YtjhdobknhgjdbaaDoor
