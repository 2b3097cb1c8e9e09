/-
  The law JournalTails, walked.
-/
import Derived.Test.YtojkifcclgecoaaJnMine
import Derived.Test.YtojkifcclgecoaaJnLawQ
namespace Go.Proofs.Ytojkifcclgecoaa
open Go Go.RowKit Go.Shelf Go.Proofs Go.Proofs.Ytojkifcclgecoaa.Dk

theorem lenR_sum1 (l : List BX) : lenR (l.map BX.b) + l.length = 16 * l.length + sum1 l := by
  unfold lenR sum1
  induction l with
  | nil => rfl
  | cons x l ih =>
    simp only [List.map_cons, List.sum_cons, List.length_cons] at ih ⊢
    omega
theorem lenR_len (l : List BX) : l.length ≤ sum1 l := by
  unfold sum1
  induction l with
  | nil => exact Nat.le_refl _
  | cons x l ih =>
    simp only [List.map_cons, List.sum_cons, List.length_cons] at ih ⊢
    omega
/-- The document's Long, of nothing. -/
theorem long07_nil (w : World) : Calls Try.prog 26 #[.slice none 0 0] w fun e w' => e = .returned (.int .i64 0) ∧ Below w.heap.size w w' := by
  go_enter Try.func26, Try.ntmps26
  go_wp2_with fail
  go_loop [3, 4] (fun s y => s = .int .i64 0 ∧ y = .int .i64 0) (fun _ _ => 0)
  case atStart => exact ⟨rfl, rfl⟩
  case round =>
    obtain ⟨rfl, rfl⟩ := hrel
    go_wp2_with fail
    go_ret
    exact ⟨rfl, Below.refl _ _⟩
/-- append, by what it comes to. -/
theorem wpList_appRun {P : Program} {ops : Array Oper} {rest : List Oper} {o : Oper} {a : Act} {w w' : World} {Q : Exit → Act → World → Prop} {v u v' : Value} {t t' : TypeId} (hgd : o.guard = none) (s x : Operand)
    (ho : o.op = .call { callee := .builtin .append, args := #[s, x], argTypes := #[t, t'] }) (hs : a.eval s = v) (hx : a.eval x = u)
    (hr : (Builtin.append_ #[t, t'] o.type #[v, u]).run P w = .ok v' w') (h : wpList P ops Q rest (a.put o.dst v') w') : wpList P ops Q (o :: rest) a w :=
  wpList_plain hgd fun _ hK => by
    unfold Oper.wp execOp
    simp only [ho, resolve, invoke, builtin, Sem.run_bind, Sem.run_pure, Result.andThen_ok, List.map_toArray, List.map_cons, List.map_nil, hs, hx, hr]
    exact hK _ _ h
/-- A row that is an argument and nil has no room. -/
theorem row_nil {H : Type} {enc : TypeId × Value → H} {P : Program} {w : World} {base : Nat} {spare : Nat → Bool} {held : Bool} {t e : TypeId} (ht : P.underlying t = some (.slice e)) {A : Option Addr} {n c : Nat} {d : DataW H} {p : List MemPlace}
    (h : DataW.Trod enc P w base spare held t (.slice A n c) d p) : A = none → c = 0 := fun hA => by
  subst hA
  obtain ⟨fuel, hf⟩ := h
  rcases Go.Deep.open_slice ht hf with ⟨hcs, _⟩ | ⟨a, len, cap, m, n', D, Pl, hcs, _⟩
  · simp only [Value.cells, List.cons.injEq, and_true, Value.slice.injEq] at hcs
    exact hcs.2.2
  · simp [Value.cells] at hcs
/-- Bytes behind a log. -/
theorem jt_append (c : DAr) (X s : Bs) (r : Nat) (hc : c.now = X) (h : X.length + s.length ≤ r) : appendE (jd zA zA c r) 2 s = 0 ∧ ∃ c', appendD (jd zA zA c r) 2 s = jd zA zA c' r ∧ c'.now = X ++ s := by
  obtain ⟨h1, h2⟩ := jd_append zA zA c r s (by rw [z_now, hc, List.length_nil]; omega)
  exact ⟨h1, _, h2, by rw [now_more, hc]⟩
/-- A log of the number 0, with a tail, opened. -/
theorem jt_open (c : DAr) (L : List Bs) (t : Bs) (r : Nat) (hc : c.now = joinR 0 L ++ t) (hL : ∀ x ∈ L, x.length ≤ 65528) (ht : t.length < 16) :
    seqO (openO (jd zA zA c r)) = 0 ∧ staO (openO (jd zA zA c r)) = [] ∧ openR (jd zA zA c r) = L ∧ openE (jd zA zA c r) = 0 ∧ ∃ c2, openD (jd zA zA c r) = jd zA zA c2 r ∧ c2.now = joinR 0 L := by
  obtain ⟨h1, h2, h3, h4⟩ := jd_open zA zA c r
  have e : newL [zA.now, zA.now] = none := by rw [newL_two, z_now, newStep_none (numb_few (by simp)), newStep_none (numb_few (by simp))]
  have e2 : recL (seqO (newL [zA.now, zA.now])) c.now = L := by rw [e, hc]; exact recL_join (by show 0 < _; omega) L t hL (recL_none (numb_few ht))
  rw [e2] at h2 h4
  rw [h1, e]
  refine ⟨rfl, rfl, h2, h3, ?_⟩
  rw [h4, hc, List.length_append, joinR_length]
  by_cases h0 : lenR L < lenR L + t.length
  · rw [if_pos h0]
    exact ⟨_, rfl, by rw [sA_now]; exact List.take_left' (joinR_length 0 L)⟩
  · rw [if_neg h0]
    have ht0 : t = [] := List.eq_nil_of_length_eq_zero (by omega)
    exact ⟨c, rfl, by rw [hc, ht0, List.append_nil]⟩

set_option maxRecDepth 100000 in
set_option maxHeartbeats 16000000 in
theorem journaltails_any (A0 A1 A2 : Option Addr) (c0 c1 c2 : Nat) (l0 : List BX) (l1 l2 : Bs) (w : World) (h0 : BRowAt w A0 c0 l0) (n0 : ∀ x ∈ l0, x.A = none → x.c = 0) (z0 : A0 = none → c0 = 0) (t1 : SlAt w A1 c1 l1) (t2 : SlAt w A2 c2 l2) :
    Calls Try.prog 6 #[.slice A0 l0.length c0, .slice A1 l1.length c1, .slice A2 l2.length c2] w fun e w' => e = .returned (.bool true) ∧ Below w.heap.size w w' := by
  have hnil := n0
  have R0 := Lib.hid (brow_at h0 n0)
  have hcp := h0.cap
  have hcm := h0.capm
  have hcm : c0 ≤ 9223372036854775807 := by unfold maxLen at hcm; omega
  by_cases hsm : l0.length ≤ 20
  · have hs0 : sum1 l0 ≤ 20 * (reachBytes + 1) := Nat.le_trans (sum1_big (fun x hx => (h0.caps x hx).2.2)) (Nat.mul_le_mul_right _ hsm)
    have hs0 : sum1 l0 ≤ 9000000000000000 := by unfold reachBytes at hs0; omega
    have HS0 := Lib.hid hs0
    have q0 : ((20 : Int) < (l0.length : Int)) = False := eq_false (by omega)
    clear hs0 n0
    go_enter Try.func6, Try.ntmps6
    go_wp2_with fail
    go_loop [7, 8] (fun s y => ∃ (i : Nat), i ≤ l0.length ∧ s = .int .i64 (sum1 (l0.take i) : Nat) ∧ y = .int .i64 i) (fun _ y => l0.length - (intOf y).toNat)
    case atStart => exact ⟨0, Nat.zero_le _, rfl, rfl⟩
    case round =>
      obtain ⟨i, hi, rfl, rfl⟩ := hrel
      by_cases k1 : i < l0.length
      · obtain ⟨g, o, x, rfl, hx, hW⟩ := R0.out i k1
        obtain ⟨hc, _⟩ := hW w (Below.refl _ _)
        have k2 : (i : Int) < (l0.length : Int) := by omega
        have k3 : (i : Int) < (c0 : Int) := by omega
        have hsn := sum1_snoc hx
        have hle := sum1_take l0 (i + 1)
        have hb := HS0.out
        have hub : sum1 (l0.take i) + 1 + x.b.length ≤ 9000000000000000 := by omega
        have HSN := Lib.hid hsn
        clear hsn hle hb hx hW
        generalize sum1 (l0.take i) = U at *
        go_wp2_with fail
        go_round
        case rel => exact ⟨i + 1, by omega, by rw [HSN.out]; go_num, by go_num⟩
        case measure => simp [intOf]; omega
      · obtain rfl : i = l0.length := by omega
        rw [List.take_length]
        have hbb := HS0.out
        obtain ⟨U, hU⟩ : ∃ U, sum1 l0 = U := ⟨_, rfl⟩
        rw [hU]
        have hUb : U ≤ 9000000000000000 := by omega
        have HU := Lib.hid hU
        clear hU hbb
        by_cases h800 : U ≤ 600
        · have q1 : ((600 : Int) < (U : Int)) = False := eq_false (by omega)
          by_cases e0 : l1.length ≤ 15
          · have u0 : ((15 : Int) < (l1.length : Int)) = False := eq_false (by omega)
            by_cases e1 : l2.length ≤ 200
            · have u1 : ((200 : Int) < (l2.length : Int)) = False := eq_false (by omega)
              have HN := Lib.hid (new_ds w 3 90000)
              rw [show (DDk.new 3 90000) = jd zA zA zA 90000 from jd_new 90000 (by omega)] at HN
              go_wp2_with fail
              refine HN.out.mono ?_
              rintro e w1 ⟨g, rfl, who1, hD1, ht1⟩
              obtain ⟨z1, z2, z3, z4, zc, z5, z6⟩ := jt_open zA [] [] 90000 rfl (by simp) (by simp)
              have HO := Lib.hid (open_any _ _ _ _ _ _ _ hD1 (by omega) (by omega) rfl z4)
              have HT1 := Lib.hid (ht1.wider (Nat.le_refl 1) (show 27 ≤ 28 by omega))
              have Z1 := Lib.hid z1
              have Z5 := Lib.hid z5
              have Z6 := Lib.hid z6
              clear hD1 ht1 HN z1 z2 z3 z4 z5 z6
              go_wp2_with fail
              refine HO.out.mono ?_
              rintro e w2 ⟨gj, A2', c2', B2, d2, rows, who2, rfl, hj2, ht2, _, _, _, _⟩
              rw [Z1.out, Z5.out] at hj2
              have hj2 : JS w.heap.size who2 w2 1 g gj (jd zA zA zc 90000) (0 + 1) 0 := hj2
              have HJ2 := Lib.hid hj2
              have HT2 := Lib.hid (HT1.out.trans ht2)
              clear hj2 ht2 HO HT1
              go_wp2_with fail
              go_loopw [14] (fun y wr => ∃ (i : Nat) (c : DAr) (who : Nat → Nat), i ≤ l0.length ∧ y = .int .i64 i ∧ Hid (c.now = joinR 0 ((l0.take i).map BX.b)) ∧ Hid (JS w.heap.size who wr 1 g gj (jd zA zA c 90000) (20 * i + sum1 (l0.take i) + 1) 0) ∧ Hid (Turn 1 28 (fun _ => 0) w who wr)) (fun y _ => l0.length - (intOf y).toNat)
              case atStart => exact ⟨0, zc, who2, Nat.zero_le _, rfl, Z6.out, HJ2, HT2⟩
              case round =>
                obtain ⟨i, c, who, hi, rfl, HC, HJ, HT⟩ := hrel
                have hsuml := lenR_sum1 (l0.take i)
                have hcount := lenR_len (l0.take i)
                by_cases k1 : i < l0.length
                · obtain ⟨g0, o0, x, rfl, hx, hW⟩ := R0.out i k1
                  have k2 : (i : Int) < (l0.length : Int) := by omega
                  have k3 : (i : Int) < (c0 : Int) := by omega
                  obtain ⟨cx, hsx⟩ := hW wr (HT.out.zero (by omega))
                  have hsn := sum1_snoc hx
                  have hle := sum1_take l0 (i + 1)
                  have hU2 := HU.out
                  have hmem := sum1_mem (List.mem_of_getElem? hx)
                  have hil : (l0.take i).length ≤ 20 := by rw [List.length_take]; omega
                  obtain ⟨f1, c', f2, f3⟩ := jt_append c _ (numbF 0 x.b) 90000 HC.out (by rw [joinR_length, numbF_length]; omega)
                  have HAP := Lib.hid (jappend_any HJ.out (by omega) (by omega) hsx (by omega))
                  rw [f1, f2] at HAP
                  have HF3 := Lib.hid (show c'.now = joinR 0 ((l0.take (i + 1)).map BX.b) by
                    rw [f3, List.take_add_one, hx]
                    simp only [Option.toList_some, List.map_append, joinR_append, List.map_cons, List.map_nil, joinR_cons, joinR_nil, List.append_nil])
                  have HSN := Lib.hid hsn
                  clear hsn hle hU2 hmem f1 f2 f3 hW hx hsx hsuml hcount hil
                  go_wp2_with fail
                  refine HAP.out.mono ?_
                  rintro e w5 ⟨rfl, who5, hj5, ht5⟩
                  have HT5 := Lib.hid (HT.out.trans ht5)
                  have HJ5 := Lib.hid hj5
                  clear hj5 ht5 HAP
                  go_wp2_with fail
                  go_roundw
                  case rel => exact ⟨i + 1, c', who5, by omega, by go_num, HF3.out, HJ5.out.mono (by rw [HSN.out]; omega), HT5.out⟩
                  case measure => simp [intOf]; omega
                · obtain rfl : i = l0.length := by omega
                  rw [List.take_length] at HC HJ hsuml hcount
                  have hU2 := HU.out
                  have hall : ∀ x ∈ l0.map BX.b, x.length ≤ 65528 := fun x hx => by
                    obtain ⟨y, hy, rfl⟩ := List.mem_map.1 hx
                    have := sum1_mem hy
                    omega
                  obtain ⟨f1, c', f2, f3⟩ := jt_append c _ l1 90000 HC.out (by rw [joinR_length]; omega)
                  obtain ⟨z1, z2, z3, z4, cT, z5, z6⟩ := jt_open c' _ l1 90000 f3 hall (by omega)
                  obtain ⟨y1, c3, y2, y3⟩ := jt_append cT _ (numbF 0 l2) 90000 z6 (by rw [joinR_length, numbF_length]; omega)
                  have y3 : c3.now = joinR 0 (l0.map BX.b ++ [l2]) ++ [] := by rw [y3, joinR_append, joinR_cons, joinR_nil, List.append_nil, List.append_nil]
                  obtain ⟨x1, x2, x3, x4, c4, x5, x6⟩ := jt_open c3 _ [] 90000 y3 (fun x hx => by
                    rcases List.mem_append.1 hx with hx | hx
                    · exact hall x hx
                    · obtain rfl : x = l2 := by simpa using hx
                      omega) (by simp)
                  have HAP := Lib.hid (HJ.out.ds.append (by omega) (by omega) 2 (t1.below (HT.out.zero (by omega))).dk rfl (by omega) (t1.dk.who HT.out))
                  have f1 : appendE (jd zA zA c 90000) 2 l1 = 0 := f1
                  rw [f1, f2] at HAP
                  have Z1 := Lib.hid z1
                  have Z3 := Lib.hid z3
                  have Z4 := Lib.hid z4
                  have Z5 := Lib.hid z5
                  have Y1 := Lib.hid y1
                  have Y2 := Lib.hid y2
                  have X3 := Lib.hid x3
                  have X4 := Lib.hid x4
                  have HLC := Lib.hid (show c'.now.length = lenR (l0.map BX.b) + l1.length by rw [f3, List.length_append, joinR_length])
                  have HLC2 := Lib.hid (show cT.now.length = lenR (l0.map BX.b) by rw [z6, joinR_length])
                  have hR : lenR (l0.map BX.b) ≤ 10000 := by omega
                  have HSB := Lib.hid (show 20 * l0.length + sum1 l0 + 1 ≤ 1001 by omega)
                  obtain ⟨N, hN⟩ : ∃ N, 20 * l0.length + sum1 l0 + 1 = N := ⟨_, rfl⟩
                  rw [hN] at HJ HAP HSB
                  clear f1 f2 f3 z1 z2 z3 z4 z5 z6 y1 y2 y3 x1 x2 x3 x4 x5 x6 hN hU2 hall hsuml hcount
                  go_wp2_with fail
                  refine HAP.out.mono ?_
                  rintro e w5 ⟨rfl, hp5⟩
                  obtain ⟨who5, hj5, ht5⟩ := HJ.out.jp hp5
                  have HT5 := Lib.hid (HT.out.trans ht5)
                  have HUS := Lib.hid (jused_any hj5 (by have := HSB.out; omega))
                  rw [jd_read2, HLC.out] at HUS
                  have HJ5 := Lib.hid hj5
                  obtain ⟨R, hRe⟩ : ∃ R, lenR (l0.map BX.b) = R := ⟨_, rfl⟩
                  rw [hRe] at HUS HLC2 hR
                  clear hj5 ht5 HAP hRe hp5
                  go_wp2_with fail
                  refine HUS.out.mono ?_
                  rintro e w6 ⟨rfl, hb6⟩
                  have HT6 := Lib.hid (HT5.out.trans (Turn.below hb6))
                  have HO6 := Lib.hid (open_any _ _ _ _ _ _ _ (HJ5.out.ds.below hb6) (by omega) (by have := HSB.out; omega) rfl Z4.out)
                  clear hb6 HUS HT5 HJ5
                  go_wp2_with fail
                  refine HO6.out.mono ?_
                  rintro e w7 ⟨gk, A7, c7, B7, d7, r7, who7, rfl, hk7, ht7, hs7, hr7, hm7, _⟩
                  rw [Z1.out, Z5.out] at hk7
                  have hk7 : JS w.heap.size who7 w7 1 g gk (jd zA zA cT 90000) (N + l1.length + 1) 0 := hk7
                  rw [Z3.out] at hm7
                  have HT7 := Lib.hid (HT6.out.trans ht7)
                  have HSM := Lib.hid (samelists_any r7 l0 B7 A0 d7 c0 w7 hr7.row (h0.below (HT7.out.zero (by omega))))
                  rw [show decide (r7.map BX.b = l0.map BX.b) = true from decide_eq_true hm7] at HSM
                  have HK7 := Lib.hid hk7
                  have wr : IntKind.i64.wrap ((R : Int) + (l1.length : Int) - (l1.length : Int)) = (R : Int) := by rw [IntWalk.i64_in _ (by omega)]; omega
                  clear hk7 ht7 hs7 hr7 hm7 HO6 HT6
                  go_wp2_with fail
                  refine HSM.out.mono ?_
                  rintro e w8 ⟨rfl, hb8⟩
                  have HT8 := Lib.hid (HT7.out.trans (Turn.below hb8))
                  have HK8 := Lib.hid (HK7.out.below hb8)
                  have HUS8 := Lib.hid (jused_any HK8.out (by have := HSB.out; omega))
                  rw [jd_read2, HLC2.out] at HUS8
                  clear hb8 HSM HT7 HK7
                  go_wp2_with fail
                  refine HUS8.out.mono ?_
                  rintro e w9 ⟨rfl, hb9⟩
                  have HT9 := Lib.hid (HT8.out.trans (Turn.below hb9))
                  have HK9 := Lib.hid (HK8.out.below hb9)
                  have HA9 := Lib.hid (jappend_any HK9.out (by omega) (by have := HSB.out; omega) (t2.below (HT9.out.zero (by omega))) (by omega))
                  rw [Y1.out, Y2.out] at HA9
                  clear hb9 HUS8 HT8 HK8
                  go_wp2_with fail
                  refine HA9.out.mono ?_
                  rintro e w10 ⟨rfl, who10, hk10, ht10⟩
                  have HT10 := Lib.hid (HT9.out.trans ht10)
                  have HO10 := Lib.hid (open_any _ _ _ _ _ _ _ hk10.ds (by omega) (by have := HSB.out; omega) rfl X4.out)
                  clear hk10 ht10 HA9 HT9 HK9
                  go_wp2_with fail
                  refine HO10.out.mono ?_
                  rintro e w11 ⟨gl, A11, c11, B11, d11, r11, who11, rfl, hk11, ht11, hs11, hr11, hm11, _⟩
                  rw [X3.out] at hm11
                  have HT11 := Lib.hid ((HT10.out.trans ht11).wider (Nat.le_refl 1) (show 28 ≤ 300 by omega))
                  have hB11 := HT11.out.zero (by omega)
                  obtain ⟨v12, w12, who12, hr12, hM12, ht12, hf12⟩ := (MineAt.nil w who11 w11).app hk11.ds.fresh hB11.size l0 A0 l0.length c0 rfl (fun e => by
                    subst e
                    have hz : l0.length = 0 := by
                      rcases Nat.eq_zero_or_pos l0.length with h | h
                      · exact h
                      · obtain ⟨g, o, e, _⟩ := h0.row h; cases e
                    exact ⟨hz, z0 rfl⟩) (fun a e j u hu => by
                    rw [List.getElem?_map] at hu
                    obtain ⟨y, hy, rfl⟩ := Option.map_eq_some_iff.1 hu
                    obtain ⟨g, o, e2, hc⟩ := (h0.below hB11).row (by have := (List.getElem?_eq_some_iff.1 hy).1; omega)
                    rw [e2] at e; cases e
                    rw [Go.WideShapes.add_plain]
                    exact hc j y hy) (fun x hx => ⟨⟨h0.bytes x hx, (h0.caps x hx).1, (h0.caps x hx).2.1, hnil x hx⟩, by have := sum1_mem hx; have := HU.out; omega⟩) (by show 0 + _ ≤ _; omega)
                  have HR12 := Lib.hid hr12
                  have HT12 := Lib.hid (HT11.out.trans (ht12.wider (show 1 ≤ 30 by omega) (show 56 ≤ 300 by omega)))
                  have hB12 := HT12.out.zero (by omega)
                  obtain ⟨v13, w13, who13, hr13, hM13, ht13, hf13⟩ := hM12.one hf12 hB12.size ⟨A2, c2, l2⟩ t2 (by show l2.length ≤ _; omega) (by rw [List.nil_append]; omega)
                  have HR13 := Lib.hid hr13
                  have HT13 := Lib.hid (HT12.out.trans (ht13.wider (show 1 ≤ 30 by omega) (show 56 ≤ 300 by omega)))
                  have hB13 := HT13.out.zero (by omega)
                  obtain ⟨A13, c13, e13, hr13b⟩ := hM13.sl hB13
                  have hr11b := ((hr11.turn (ht12) (by omega)).turn ht13 (by omega)).row
                  have HSM := Lib.hid (samelists_any r11 _ B11 A13 d11 c13 w13 hr11b hr13b)
                  have hd11 : r11.map BX.b = ([] ++ l0 ++ [(⟨A2, c2, l2⟩ : BX)]).map BX.b := by rw [hm11]; simp
                  rw [decide_eq_true hd11] at HSM
                  obtain ⟨L13, hL13⟩ : ∃ L13, ([] ++ l0 ++ [(⟨A2, c2, l2⟩ : BX)]).length = L13 := ⟨_, rfl⟩
                  rw [hL13] at HSM e13
                  have hHR12 : (Builtin.append_ #[30, 30] 30 #[.slice none 0 0, .slice A0 l0.length c0]).run Try.prog w11 = .ok v12 w12 := HR12.out
                  have hHR13 : (Builtin.append_ #[30, 30] 30 #[v12, .slice (some ⟨w12.heap.size, 0, none⟩) 1 1]).run Try.prog (w12.alloc (.cells #[.slice A2 l2.length c2] 29)) = .ok (.slice A13 L13 c13) w13 := by rw [← e13]; exact HR13.out
                  have HH12 := Lib.hid hHR12
                  have HH13 := Lib.hid hHR13
                  clear hHR12 hHR13
                  have HB13 := Lib.hid hB13
                  clear hB13
                  clear hr12 hM12 ht12 hf12 hr13 hM13 ht13 hf13 hB11 hB12 hr13b hr11b hk11 ht11 hs11 hr11 hm11 HR12 HR13 HT11 HT12 HO10 HT10 hL13 e13 hd11
                  go_wp2_with (at_builtin; first | refine wpList_appRun rfl _ _ rfl rfl rfl HH12.out ?_ | refine wpList_appRun rfl _ _ rfl rfl rfl HH13.out ?_)
                  refine HSM.out.mono ?_
                  rintro e w14 ⟨rfl, hb14⟩
                  have HB14 := Lib.hid (HB13.out.trans (hb14.mono HB13.out.size))
                  have HLN := Lib.hid (long07_nil w14)
                  clear hb14 HSM
                  go_wp2_with fail
                  refine HLN.out.mono ?_
                  rintro e w15 ⟨rfl, hb15⟩
                  have HB15 := Lib.hid (HB14.out.trans (hb15.mono HB14.out.size))
                  have HK := Lib.hid (jknown_any w15)
                  clear hb15 HLN
                  go_wp2_with fail
                  refine HK.out.mono ?_
                  rintro e w16 ⟨rfl, hb16⟩
                  go_wp2_with fail
                  go_ret
                  exact ⟨rfl, HB15.out.trans (hb16.mono HB15.out.size)⟩
            · have u1 : ((200 : Int) < (l2.length : Int)) = True := eq_true (by omega)
              have HK := Lib.hid (jknown_any w)
              go_wp2_with fail
              refine HK.out.mono ?_
              rintro e w1 ⟨rfl, hb⟩
              go_wp2_with fail
              go_ret
              exact ⟨rfl, hb⟩

          · have u0 : ((15 : Int) < (l1.length : Int)) = True := eq_true (by omega)
            have HK := Lib.hid (jknown_any w)
            go_wp2_with fail
            refine HK.out.mono ?_
            rintro e w1 ⟨rfl, hb⟩
            go_wp2_with fail
            go_ret
            exact ⟨rfl, hb⟩

        · have q1 : ((600 : Int) < (U : Int)) = True := eq_true (by omega)
          have HK := Lib.hid (jknown_any w)
          go_wp2_with fail
          refine HK.out.mono ?_
          rintro e w1 ⟨rfl, hb⟩
          go_wp2_with fail
          go_ret
          exact ⟨rfl, hb⟩
  · have q0 : ((20 : Int) < (l0.length : Int)) = True := eq_true (by omega)
    clear n0
    go_enter Try.func6, Try.ntmps6
    go_wp2_with fail
    go_loop [7, 8] (fun s y => ∃ (i : Nat) (z : Int), i ≤ l0.length ∧ s = .int .i64 z ∧ y = .int .i64 i) (fun _ y => l0.length - (intOf y).toNat)
    case atStart => exact ⟨0, 0, Nat.zero_le _, rfl, rfl⟩
    case round =>
      obtain ⟨i, z, hi, rfl, rfl⟩ := hrel
      by_cases k1 : i < l0.length
      · obtain ⟨g, o, x, rfl, hx, hW⟩ := R0.out i k1
        obtain ⟨hc, _⟩ := hW w (Below.refl _ _)
        have k2 : (i : Int) < (l0.length : Int) := by omega
        have k3 : (i : Int) < (c0 : Int) := by omega
        clear hW hx
        go_wp2_with fail
        go_round
        case rel => exact ⟨i + 1, _, by omega, rfl, by go_num⟩
        case measure => simp [intOf]; omega
      · obtain rfl : i = l0.length := by omega
        by_cases hz : z > 600
        · have hz1 : decide (z > 600) = true := decide_eq_true hz
          have HK := Lib.hid (jknown_any w)
          go_wp2_with fail
          refine HK.out.mono ?_
          rintro e w1 ⟨rfl, hb⟩
          go_wp2_with fail
          go_ret
          exact ⟨rfl, hb⟩
        · have hz1 : decide (z > 600) = false := decide_eq_false hz
          have HK := Lib.hid (jknown_any w)
          go_wp2_with fail
          refine HK.out.mono ?_
          rintro e w1 ⟨rfl, hb⟩
          go_wp2_with fail
          go_ret
          exact ⟨rfl, hb⟩
end Go.Proofs.Ytojkifcclgecoaa
