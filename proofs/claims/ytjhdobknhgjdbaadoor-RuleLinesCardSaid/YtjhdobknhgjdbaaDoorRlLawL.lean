/-
  The walk of RuleLines.
-/
import Derived.Test.YtjhdobknhgjdbaaDoorRlLong
import Derived.Test.YtjhdobknhgjdbaaDoorRlLawT
import Derived.Laws.AppendOwnNone
import Derived.Deep.Cut
namespace Go.Proofs.YtjhdobknhgjdbaaDoor
open Go Go.RowKit Go.Shelf Go.Proofs
attribute [local go_sem] Oper.semAt_some

theorem row_cells {w : World} {g o : Nat} {l : List RX} (h : RowU w g o l) : ∀ j u, (rcells l)[j]? = some u → w.cell? ((⟨g, o, none⟩ : Addr).add j) = some u := by
  intro j u hj
  have hlt := (List.getElem?_eq_some_iff.1 hj).1
  rw [rcells_length] at hlt
  have hi : j / 4 < l.length := by omega
  obtain ⟨x, hx⟩ : ∃ x, l[j / 4]? = some x := ⟨_, List.getElem?_eq_getElem hi⟩
  obtain ⟨a0, a1, a2, a3⟩ := rcells_at l (j / 4) x hx
  obtain ⟨b0, b1, b2, b3⟩ := h (j / 4) x hx
  rw [Go.WideShapes.add_plain]
  have hr : j % 4 < 4 := by omega
  have key : j = j / 4 * 4 + j % 4 := by omega
  generalize j % 4 = r at *
  generalize j / 4 = i at *
  subst key
  match r, hr with
  | 0, _ => rw [Nat.add_zero] at hj ⊢; rw [a0] at hj; rw [← hj]; exact b0
  | 1, _ => rw [a1] at hj; rw [← hj]; exact b1
  | 2, _ => rw [a2] at hj; rw [← hj]; exact b2
  | 3, _ => rw [a3] at hj; rw [← hj]; exact b3
theorem wpList_append_rules {ops : Array Oper} {rest : List Oper} {o : Oper} {a : Act} {w : World} {Q : Exit → Act → World → Prop} (hgd : o.guard = none) (s x : Operand)
    (ho : o.op = .call { callee := .builtin .append, args := #[s, x], argTypes := #[23, 23] })
    (base : Nat) (v : Value) (A : Option Addr) (c : Nat) (l m : List RX) (hs : a.eval s = v) (hown : w.ownsRow base 35 4 v l.length (rcells l)) (hx : a.eval x = .slice A m.length c) (hm : RulesAt w A c m) (hn : A = none → c = 0) (hl : l.length + m.length ≤ 10000) (hbase : base ≤ w.heap.size)
    (h : ∀ v' w', w'.ownsRow base 35 4 v' (l ++ m).length (rcells (l ++ m)) → w.grownBy w' v.ownBlock → wpList Tryd.prog ops Q rest (a.put o.dst v') w') : wpList Tryd.prog ops Q (o :: rest) a w := by
  obtain ⟨i0, hi, hz0, hz1, hz2⟩ := info_parts rule_info
  cases A with
  | none =>
    obtain rfl : m = [] := by
      cases m with
      | nil => rfl
      | cons y m => obtain ⟨g, o, e, _⟩ := hm.row (by simp); cases e
    obtain rfl := hn rfl
    refine wpList_append_own_none hgd s x 23 ho base 35 i0 4 Tryd.underlying23 hi v l.length (rcells l) hs hown hx (h v w ?_ (World.grownBy.refl w _))
    rw [List.append_nil]; exact hown
  | some p =>
    refine wpList_append_own w hgd s x 23 ho base 35 i0 (.agg #[.int .i64 0, .string ⟨#[]⟩, .string ⟨#[]⟩, .string ⟨#[]⟩]) 4 56 Tryd.underlying23 hi hz0 hz1 hz2 rfl (by decide) v l.length (rcells l) hs hown p m.length c (rcells m) hx (rcells_length m) ?_ (rcells_one m) (by unfold maxLen; omega) (by omega) hbase fun v' w' h1 h2 _ => h v' w' ?_ h2
    · intro j u hj
      have hlt := (List.getElem?_eq_some_iff.1 hj).1
      rw [rcells_length] at hlt
      obtain ⟨g, o', e, hr⟩ := hm.row (by omega)
      cases e
      exact row_cells hr j u hj
    · rw [List.length_append, rcells_append]; exact h1

set_option maxRecDepth 100000 in
set_option maxHeartbeats 16000000 in
theorem rlines_small (L1 L2 : List RX) (A1 A2 : Option Addr) (c1 c2 : Nat) (w : World) (h1 : RulesAt w A1 c1 L1) (h2 : RulesAt w A2 c2 L2) (n1 : A1 = none → c1 = 0) (n2 : A2 = none → c2 = 0) (t1 : ∀ x ∈ L1, x.Tiny) (t2 : ∀ x ∈ L2, x.Tiny) (hm : MaxOk w) (h40 : L1.length ≤ 40) (h41 : L2.length ≤ 40) (h25 : longU (rusX L1) + longU (rusX L2) ≤ 2500) :
    Calls Tryd.prog 7 #[.slice A1 L1.length c1, .slice A2 L2.length c2] w (RlB true w) := by
  have HK := Lib.hid (fun (W : World) (hb : Below w.heap.size w W) => rknown_any W (hm.below hb))
  have HMX := Lib.hid (fun (W : World) (hb : Below w.heap.size w W) => hm.below hb)
  have HM1 := Lib.hid h1
  have HM2 := Lib.hid h2
  have HN1 := Lib.hid n1
  have HN2 := Lib.hid n2
  have HL1 := Lib.hid (fun (W : World) (hb : Below w.heap.size w W) => rlong_any L1 A1 c1 W (HM1.out.below hb) (by omega) t1)
  have HL2 := Lib.hid (fun (W : World) (hb : Below w.heap.size w W) => rlong_any L2 A2 c2 W (HM2.out.below hb) (by omega) t2)
  have HP1 := Lib.hid (fun (W : World) (hb : Below w.heap.size w W) => print_any A1 c1 L1 W (HM1.out.below hb) (fun x hx => (t1 x hx).fits) (HMX.out W hb))
  have HP2 := Lib.hid (fun (W : World) (hb : Below w.heap.size w W) => print_any A2 c2 L2 W (HM2.out.below hb) (fun x hx => (t2 x hx).fits) (HMX.out W hb))
  have HQ1 := Lib.hid (show longU (rusX L1) ≤ 2500 by omega)
  have HQ2 := Lib.hid (show longU (rusX L2) ≤ 2500 by omega)
  obtain ⟨q1, hq1⟩ : ∃ q, longU (rusX L1) = q := ⟨_, rfl⟩
  obtain ⟨q2, hq2⟩ : ∃ q, longU (rusX L2) = q := ⟨_, rfl⟩
  rw [hq1] at HL1 h25
  rw [hq2] at HL2 h25
  have g1 : ¬ (40 : Int) < (L1.length : Int) := by omega
  have g2 : ¬ (40 : Int) < (L2.length : Int) := by omega
  have wq : IntKind.i64.wrap ((q1 : Int) + (q2 : Int)) = (q1 : Int) + (q2 : Int) := IntWalk.i64_in _ (by omega)
  have g3 : ¬ (2500 : Int) < (q1 : Int) + (q2 : Int) := by omega
  clear h1 h2 n1 n2 t1 t2 hm hq1 hq2
  obtain ⟨x, hx⟩ : ∃ x, mkB (printU (rusX L1)).2 = x := ⟨_, rfl⟩
  obtain ⟨y, hy⟩ : ∃ y, mkB (printU (rusX L2)).2 = y := ⟨_, rfl⟩
  have hxd : x.data.toList = (printU (rusX L1)).2 := by rw [← hx, mkB_data]
  have hyd : y.data.toList = (printU (rusX L2)).2 := by rw [← hy, mkB_data]
  rw [hx] at HP1
  rw [hy] at HP2
  clear hx hy
  cases hpa : decide ((printU (rusX L1)).1 = 0) with
  | false =>
    have hpe : ((printU (rusX L1)).1 != 0) = true := by simpa using of_decide_eq_false hpa
    clear hpa hxd hyd
    go_enter Tryd.func7, Tryd.ntmps7
    go_wp2_with fail
    refine (HL1.out _ (Below.refl _ _)).mono ?_
    rintro e w1 ⟨rfl, hb⟩
    have HB1 := Lib.hid hb
    clear hb HL1
    go_wp2_with fail
    refine (HL2.out _ HB1.out).mono ?_
    rintro e w2 ⟨rfl, hb⟩
    have HB2 := Lib.hid (HB1.out.trans (hb.mono HB1.out.size))
    clear hb HL2 HB1
    go_wp2_with fail
    refine (HP1.out _ HB2.out).mono ?_
    rintro e w3 ⟨rfl, hb⟩
    have HB3 := Lib.hid (HB2.out.trans (hb.mono HB2.out.size))
    clear hb HP1 HB2
    go_wp2_with fail
    refine (HP2.out _ HB3.out).mono ?_
    rintro e w4 ⟨rfl, hb⟩
    have HB := Lib.hid (HB3.out.trans (hb.mono HB3.out.size))
    clear hb HP2 HB3
    go_wp2_with fail
    refine (HK.out _ HB.out).mono ?_
    rintro e y ⟨rfl, hb⟩
    go_wp2_with fail
    go_ret
    exact ⟨rfl, HB.out.trans (hb.mono HB.out.size)⟩
  | true =>
    have hpe := of_decide_eq_true hpa
    have HPE := Lib.hid hpe
    rw [hpe] at HP1
    clear hpa hpe
    cases hra : decide ((printU (rusX L2)).1 = 0) with
    | false =>
      have hpe : ((printU (rusX L2)).1 != 0) = true := by simpa using of_decide_eq_false hra
      clear hra hxd hyd
      go_enter Tryd.func7, Tryd.ntmps7
      go_wp2_with fail
      refine (HL1.out _ (Below.refl _ _)).mono ?_
      rintro e w1 ⟨rfl, hb⟩
      have HB1 := Lib.hid hb
      clear hb HL1
      go_wp2_with fail
      refine (HL2.out _ HB1.out).mono ?_
      rintro e w2 ⟨rfl, hb⟩
      have HB2 := Lib.hid (HB1.out.trans (hb.mono HB1.out.size))
      clear hb HL2 HB1
      go_wp2_with fail
      refine (HP1.out _ HB2.out).mono ?_
      rintro e w3 ⟨rfl, hb⟩
      have HB3 := Lib.hid (HB2.out.trans (hb.mono HB2.out.size))
      clear hb HP1 HB2
      go_wp2_with fail
      refine (HP2.out _ HB3.out).mono ?_
      rintro e w4 ⟨rfl, hb⟩
      have HB := Lib.hid (HB3.out.trans (hb.mono HB3.out.size))
      clear hb HP2 HB3
      go_wp2_with fail
      refine (HK.out _ HB.out).mono ?_
      rintro e y ⟨rfl, hb⟩
      go_wp2_with fail
      go_ret
      exact ⟨rfl, HB.out.trans (hb.mono HB.out.size)⟩
    | true =>
      have hre := of_decide_eq_true hra
      have HRE := Lib.hid hre
      rw [hre] at HP2
      clear hra hre
      have xl : x.size ≤ 37500 := by
        obtain ⟨p1, _, p3⟩ := print_ok HPE.out
        have l := textU_len _ p1
        rw [← rl_size, hxd, p3]
        have := HQ1.out
        omega
      have yl : y.size ≤ 37500 := by
        obtain ⟨p1, _, p3⟩ := print_ok HRE.out
        have l := textU_len _ p1
        rw [← rl_size, hyd, p3]
        have := HQ2.out
        omega
      have wxy : IntKind.i64.wrap ((x.size : Int) + (y.size : Int)) = (x.size : Int) + (y.size : Int) := IntWalk.i64_in _ (by omega)
      by_cases h16 : 16384 < x.size + y.size
      · have g4 : (16384 : Int) < (x.size : Int) + (y.size : Int) := by omega
        clear hxd hyd HPE HRE
        go_enter Tryd.func7, Tryd.ntmps7
        go_wp2_with fail
        refine (HL1.out _ (Below.refl _ _)).mono ?_
        rintro e w1 ⟨rfl, hb⟩
        have HB1 := Lib.hid hb
        clear hb HL1
        go_wp2_with fail
        refine (HL2.out _ HB1.out).mono ?_
        rintro e w2 ⟨rfl, hb⟩
        have HB2 := Lib.hid (HB1.out.trans (hb.mono HB1.out.size))
        clear hb HL2 HB1
        go_wp2_with fail
        refine (HP1.out _ HB2.out).mono ?_
        rintro e w3 ⟨rfl, hb⟩
        have HB3 := Lib.hid (HB2.out.trans (hb.mono HB2.out.size))
        clear hb HP1 HB2
        go_wp2_with fail
        refine (HP2.out _ HB3.out).mono ?_
        rintro e w4 ⟨rfl, hb⟩
        have HB := Lib.hid (HB3.out.trans (hb.mono HB3.out.size))
        clear hb HP2 HB3
        go_wp2_with fail
        refine (HK.out _ HB.out).mono ?_
        rintro e y ⟨rfl, hb⟩
        go_wp2_with fail
        go_ret
        exact ⟨rfl, HB.out.trans (hb.mono HB.out.size)⟩
      · have g4 : ¬ (16384 : Int) < (x.size : Int) + (y.size : Int) := by omega
        obtain ⟨t, htt⟩ : ∃ t, x ++ y = t := ⟨_, rfl⟩
        have hpt : parseU t.data.toList = if 50 < (rusX L1 ++ rusX L2).length then (3, []) else (0, rusX L1 ++ rusX L2) := by
          rw [← htt, data_app, hxd, hyd]
          exact parse_two HPE.out HRE.out (by rw [← hxd, ← hyd, rl_size, rl_size]; omega)
        have HPT := Lib.hid (fun (W : World) (hb : Below w.heap.size w W) => rparse_all t W (by rw [← htt, app_size]; unfold maxLen; omega) (HMX.out W hb))
        rw [hpt, ← rusX_append, rusX_length, List.length_append] at HPT
        have HTT := Lib.hid htt
        clear hxd hyd HPE HRE hpt htt
        by_cases h50 : 50 < L1.length + L2.length
        · have g5 : (50 : Int) < (L1.length : Int) + (L2.length : Int) := by omega
          obtain ⟨LL, hLL⟩ : ∃ LL : List RX, [] ++ L1 ++ L2 = LL := ⟨_, rfl⟩
          have HLL := Lib.hid hLL
          have g6 : (50 : Int) < (LL.length : Int) := by rw [← hLL, List.nil_append, List.length_append]; omega
          rw [if_pos h50] at HPT
          clear hLL h50
          go_enter Tryd.func7, Tryd.ntmps7
          go_wp2_with fail
          refine (HL1.out _ (Below.refl _ _)).mono ?_
          rintro e w1 ⟨rfl, hb⟩
          have HB1 := Lib.hid hb
          clear hb HL1
          go_wp2_with fail
          refine (HL2.out _ HB1.out).mono ?_
          rintro e w2 ⟨rfl, hb⟩
          have HB2 := Lib.hid (HB1.out.trans (hb.mono HB1.out.size))
          clear hb HL2 HB1
          go_wp2_with fail
          refine (HP1.out _ HB2.out).mono ?_
          rintro e w3 ⟨rfl, hb⟩
          have HB3 := Lib.hid (HB2.out.trans (hb.mono HB2.out.size))
          clear hb HP1 HB2
          go_wp2_with fail
          refine (HP2.out _ HB3.out).mono ?_
          rintro e w4 ⟨rfl, hb⟩
          have HB := Lib.hid (HB3.out.trans (hb.mono HB3.out.size))
          clear hb HP2 HB3
          go_wp2_with fail
          rw [HTT.out]
          refine (HPT.out _ HB.out).mono ?_
          rintro e w5 ⟨A5, c5, l5, rfl, _, x5, hb⟩
          have HB5 := Lib.hid (HB.out.trans (hb.mono HB.out.size))
          obtain rfl : l5 = [] := by
            have h2 := congrArg List.length x5
            rw [rusX_length] at h2
            exact List.eq_nil_of_length_eq_zero h2
          clear hb x5 HB HPT
          have hnil : w5.ownsRow w5.heap.size 35 4 (.slice none 0 0) ([] : List RX).length (rcells []) := World.ownsRow_nil _ _ _ _
          have hm1 := HM1.out.below HB5.out
          have hz1 : ([] : List RX).length + L1.length ≤ 10000 := by simp only [List.length_nil]; omega
          have hz2 : ([] ++ L1).length + L2.length ≤ 10000 := by simp only [List.nil_append]; omega
          have HNIL := Lib.hid hnil
          have HMM := Lib.hid hm1
          have HZ1 := Lib.hid hz1
          have HZ2 := Lib.hid hz2
          clear hnil hm1 hz1 hz2
          go_upto_region 10 with (at_builtin; go_loud (refine wpList_append_rules rfl _ _ rfl w5.heap.size (.slice none 0 0) A1 c1 [] L1 rfl HNIL.out rfl HMM.out HN1.out HZ1.out (Nat.le_refl _) ?_; intro v6 w6 hr6 hg6; have hb6 : Below w5.heap.size w5 w6 := (Below.refl _ _).grown hg6 (Nat.le_refl _) (by intro k hk; cases hk); have HB6 := Lib.hid hb6; have HR6 := Lib.hid hr6; have HG6 := Lib.hid hg6; clear hr6 hg6 hb6))
          have HMN := Lib.hid (HM2.out.below (HB5.out.trans (HB6.out.mono HB5.out.size)))
          go_upto_region 11 with (at_builtin; go_loud (refine wpList_append_rules rfl _ _ rfl w5.heap.size v6 A2 c2 ([] ++ L1) L2 rfl HR6.out rfl HMN.out HN2.out HZ2.out HB6.out.size ?_; intro v7 w7 hr7 hg7; have hb7 : Below w5.heap.size w5 w7 := HB6.out.grown hg7 HB6.out.size (by intro k hk; exact (row_ge HR6.out hk).1); have HB7 := Lib.hid hb7; have HR7 := Lib.hid hr7; clear hr7 hg7 hb7))
          have hr7 := HR7.out
          rw [HLL.out] at hr7
          obtain ⟨A7, c7, rfl, hR7⟩ := rules_own hr7
          have HB := Lib.hid (HB5.out.trans (HB7.out.mono HB5.out.size))
          clear hR7 hr7 HR7
          go_wp2_with fail
          refine (HK.out _ HB.out).mono ?_
          rintro e y ⟨rfl, hb⟩
          go_wp2_with fail
          go_ret
          exact ⟨rfl, HB.out.trans (hb.mono HB.out.size)⟩
        · obtain ⟨LL, hLL⟩ : ∃ LL : List RX, [] ++ L1 ++ L2 = LL := ⟨_, rfl⟩
          have HLL := Lib.hid hLL
          have g6 : ¬ (50 : Int) < (LL.length : Int) := by rw [← hLL, List.nil_append, List.length_append]; omega
          rw [if_neg h50] at HPT
          clear hLL h50
          go_enter Tryd.func7, Tryd.ntmps7
          go_wp2_with fail
          refine (HL1.out _ (Below.refl _ _)).mono ?_
          rintro e w1 ⟨rfl, hb⟩
          have HB1 := Lib.hid hb
          clear hb HL1
          go_wp2_with fail
          refine (HL2.out _ HB1.out).mono ?_
          rintro e w2 ⟨rfl, hb⟩
          have HB2 := Lib.hid (HB1.out.trans (hb.mono HB1.out.size))
          clear hb HL2 HB1
          go_wp2_with fail
          refine (HP1.out _ HB2.out).mono ?_
          rintro e w3 ⟨rfl, hb⟩
          have HB3 := Lib.hid (HB2.out.trans (hb.mono HB2.out.size))
          clear hb HP1 HB2
          go_wp2_with fail
          refine (HP2.out _ HB3.out).mono ?_
          rintro e w4 ⟨rfl, hb⟩
          have HB := Lib.hid (HB3.out.trans (hb.mono HB3.out.size))
          clear hb HP2 HB3
          go_wp2_with fail
          rw [HTT.out]
          refine (HPT.out _ HB.out).mono ?_
          rintro e w5 ⟨A5, c5, l5, rfl, r5, x5, hb⟩
          have HB5 := Lib.hid (HB.out.trans (hb.mono HB.out.size))
          have R5 := Lib.hid r5
          have X5 := Lib.hid x5
          clear hb x5 r5 HB HPT
          have hnil : w5.ownsRow w5.heap.size 35 4 (.slice none 0 0) ([] : List RX).length (rcells []) := World.ownsRow_nil _ _ _ _
          have hm1 := HM1.out.below HB5.out
          have hz1 : ([] : List RX).length + L1.length ≤ 10000 := by simp only [List.length_nil]; omega
          have hz2 : ([] ++ L1).length + L2.length ≤ 10000 := by simp only [List.nil_append]; omega
          have HNIL := Lib.hid hnil
          have HMM := Lib.hid hm1
          have HZ1 := Lib.hid hz1
          have HZ2 := Lib.hid hz2
          clear hnil hm1 hz1 hz2
          go_upto_region 10 with (at_builtin; go_loud (refine wpList_append_rules rfl _ _ rfl w5.heap.size (.slice none 0 0) A1 c1 [] L1 rfl HNIL.out rfl HMM.out HN1.out HZ1.out (Nat.le_refl _) ?_; intro v6 w6 hr6 hg6; have hb6 : Below w5.heap.size w5 w6 := (Below.refl _ _).grown hg6 (Nat.le_refl _) (by intro k hk; cases hk); have HB6 := Lib.hid hb6; have HR6 := Lib.hid hr6; have HG6 := Lib.hid hg6; clear hr6 hg6 hb6))
          have HMN := Lib.hid (HM2.out.below (HB5.out.trans (HB6.out.mono HB5.out.size)))
          go_upto_region 11 with (at_builtin; go_loud (refine wpList_append_rules rfl _ _ rfl w5.heap.size v6 A2 c2 ([] ++ L1) L2 rfl HR6.out rfl HMN.out HN2.out HZ2.out HB6.out.size ?_; intro v7 w7 hr7 hg7; have hb7 : Below w5.heap.size w5 w7 := HB6.out.grown hg7 HB6.out.size (by intro k hk; exact (row_ge HR6.out hk).1); have HB7 := Lib.hid hb7; have HR7 := Lib.hid hr7; clear hr7 hg7 hb7))
          have hr7 := HR7.out
          rw [HLL.out] at hr7
          obtain ⟨A7, c7, rfl, hR7⟩ := rules_own hr7
          have HB8 := Lib.hid (HB5.out.trans (HB7.out.mono HB5.out.size))
          have HSM := Lib.hid (rsame_any l5 LL A5 A7 c5 c7 w7 true (R5.out.below HB7.out) hR7 ⟨fun _ => by rw [← HLL.out, List.nil_append]; exact X5.out, fun _ => rfl⟩)
          clear hR7 hr7 HR7
          go_wp2_with fail
          refine HSM.out.mono ?_
          rintro e w8 ⟨rfl, hb⟩
          have HB := Lib.hid (HB8.out.trans (hb.mono HB8.out.size))
          clear hb HB8
          go_wp2_with fail
          refine (HK.out _ HB.out).mono ?_
          rintro e y ⟨rfl, hb⟩
          go_wp2_with fail
          go_ret
          exact ⟨rfl, HB.out.trans (hb.mono HB.out.size)⟩
set_option maxRecDepth 100000 in
set_option maxHeartbeats 16000000 in
theorem rlines_any (L1 L2 : List RX) (A1 A2 : Option Addr) (c1 c2 : Nat) (w : World) (h1 : RulesAt w A1 c1 L1) (h2 : RulesAt w A2 c2 L2) (n1 : A1 = none → c1 = 0) (n2 : A2 = none → c2 = 0) (t1 : ∀ x ∈ L1, x.Tiny) (t2 : ∀ x ∈ L2, x.Tiny) (hm : MaxOk w) :
    Calls Tryd.prog 7 #[.slice A1 L1.length c1, .slice A2 L2.length c2] w (RlB true w) := by
  have hL1 : L1.length ≤ maxLen := Nat.le_trans h1.cap h1.capm
  have hL2 : L2.length ≤ maxLen := Nat.le_trans h2.cap h2.capm
  unfold maxLen at hL1 hL2
  have HK := Lib.hid (fun (W : World) (hb : Below w.heap.size w W) => rknown_any W (hm.below hb))
  by_cases h40 : 40 < L1.length
  · have g1 : (40 : Int) < (L1.length : Int) := by omega
    have HB := Lib.hid (Below.refl w.heap.size w)
    clear h1 h2 t1 t2 n1 n2 hm
    go_enter Tryd.func7, Tryd.ntmps7
    go_wp2_with fail
    refine (HK.out _ HB.out).mono ?_
    rintro e y ⟨rfl, hb⟩
    go_wp2_with fail
    go_ret
    exact ⟨rfl, HB.out.trans (hb.mono HB.out.size)⟩
  · have g1 : ¬ (40 : Int) < (L1.length : Int) := by omega
    by_cases h41 : 40 < L2.length
    · have g2 : (40 : Int) < (L2.length : Int) := by omega
      have HB := Lib.hid (Below.refl w.heap.size w)
      clear h1 h2 t1 t2 n1 n2 hm
      go_enter Tryd.func7, Tryd.ntmps7
      go_wp2_with fail
      refine (HK.out _ HB.out).mono ?_
      rintro e y ⟨rfl, hb⟩
      go_wp2_with fail
      go_ret
      exact ⟨rfl, HB.out.trans (hb.mono HB.out.size)⟩
    · have g2 : ¬ (40 : Int) < (L2.length : Int) := by omega
      by_cases h25 : 2500 < longU (rusX L1) + longU (rusX L2)
      · have HL1 := Lib.hid (fun (W : World) (hb : Below w.heap.size w W) => rlong_any L1 A1 c1 W (h1.below hb) (by omega) t1)
        have HL2 := Lib.hid (fun (W : World) (hb : Below w.heap.size w W) => rlong_any L2 A2 c2 W (h2.below hb) (by omega) t2)
        have b1 := longU_le (m := 281474976710656) (rusX L1) fun r hr => by
          obtain ⟨y, hy, rfl⟩ := List.mem_map.1 hr
          exact tiny_len (t1 y hy)
        have b2 := longU_le (m := 281474976710656) (rusX L2) fun r hr => by
          obtain ⟨y, hy, rfl⟩ := List.mem_map.1 hr
          exact tiny_len (t2 y hy)
        rw [rusX_length] at b1 b2
        obtain ⟨q1, hq1⟩ : ∃ q, longU (rusX L1) = q := ⟨_, rfl⟩
        obtain ⟨q2, hq2⟩ : ∃ q, longU (rusX L2) = q := ⟨_, rfl⟩
        rw [hq1] at HL1 h25 b1
        rw [hq2] at HL2 h25 b2
        have b1' : q1 ≤ 40 * (1 + 3 * 281474976710656) := Nat.le_trans b1 (Nat.mul_le_mul_right _ (by omega))
        have b2' : q2 ≤ 40 * (1 + 3 * 281474976710656) := Nat.le_trans b2 (Nat.mul_le_mul_right _ (by omega))
        have wq : IntKind.i64.wrap ((q1 : Int) + (q2 : Int)) = (q1 : Int) + (q2 : Int) := IntWalk.i64_in _ (by omega)
        have g3 : (2500 : Int) < (q1 : Int) + (q2 : Int) := by omega
        clear h1 h2 t1 t2 n1 n2 hm hq1 hq2 b1 b2 b1' b2'
        go_enter Tryd.func7, Tryd.ntmps7
        go_wp2_with fail
        refine (HL1.out _ (Below.refl _ _)).mono ?_
        rintro e w1 ⟨rfl, hb⟩
        have HB1 := Lib.hid hb
        clear hb HL1
        go_wp2_with fail
        refine (HL2.out _ HB1.out).mono ?_
        rintro e w2 ⟨rfl, hb⟩
        have HB2 := Lib.hid (HB1.out.trans (hb.mono HB1.out.size))
        clear hb HL2 HB1
        go_wp2_with fail
        have HB := HB2
        clear HB2
        refine (HK.out _ HB.out).mono ?_
        rintro e y ⟨rfl, hb⟩
        go_wp2_with fail
        go_ret
        exact ⟨rfl, HB.out.trans (hb.mono HB.out.size)⟩
      · exact rlines_small L1 L2 A1 A2 c1 c2 w h1 h2 n1 n2 t1 t2 hm (by omega) (by omega) (by omega)
end Go.Proofs.YtjhdobknhgjdbaaDoor
