/-
  The law JournalSeqs, walked. · The law JournalSeqs, walked.
-/
import Derived.Test.YtojkifcclgecoaaJnKnown
namespace Go.Proofs.Ytojkifcclgecoaa
open Go Go.RowKit Go.Shelf Go.Proofs Go.Proofs.Ytojkifcclgecoaa.Dk

/-- Slots behind q states, the last of which is s (none of the number 0). -/
structure SlotsAt (q : Nat) (s : Bs) (a b : Bs) : Prop where
  open_ : seqO (newL [a, b]) = q ∧ staO (newL [a, b]) = s
  good : ∀ x ∈ [a, b], ∀ y, numb x = some y → y.1 ≤ q
theorem slots_zero : SlotsAt 0 [] [] [] := by
  have e : newL [([] : Bs), []] = none := by rw [newL_two, newStep_none (numb_few (by simp)), newStep_none (numb_few (by simp))]
  refine ⟨by rw [e]; exact ⟨rfl, rfl⟩, fun x hx y hy => ?_⟩
  have : x = [] := by simpa using hx
  subst this
  cases hy
theorem newStep_big {o : Option (Nat × Bs)} {x : Bs} {y : Nat × Bs} (h : numb x = some y) (ho : ∀ z, o = some z → z.1 < y.1) : newStep o x = some y := by
  cases o with
  | none => exact newStep_first h
  | some z => rw [newStep_more h, if_pos (ho z rfl)]
theorem newStep_low {y : Nat × Bs} {x : Bs} (h : ∀ z, numb x = some z → z.1 < y.1) : newStep (some y) x = some y := by
  cases hx : numb x with
  | none => exact newStep_none hx _
  | some z => rw [newStep_more hx, if_neg (by have := h z hx; omega)]
theorem newStep_old {x : Bs} {q : Nat} (h : ∀ z, numb x = some z → z.1 ≤ q) : ∀ z, newStep none x = some z → z.1 ≤ q := fun z hz => by
  cases hx : numb x with
  | none => rw [newStep_none hx] at hz; cases hz
  | some u => rw [newStep_first hx] at hz; cases hz; exact h _ hx
theorem SlotsAt.next0 {q : Nat} {s t a b : Bs} (h : SlotsAt q s a b) (hq : q + 1 < 2 ^ 64) (ht : t.length ≤ 65528) : SlotsAt (q + 1) t (numbF (q + 1) t) b := by
  have hn : numb (numbF (q + 1) t) = some (q + 1, t) := by have := numb_join (n := q + 1) (b := t) (t := []) hq ht; rwa [List.append_nil] at this
  have hb := h.good b (by simp)
  have e : newL [numbF (q + 1) t, b] = some (q + 1, t) := by
    rw [newL_two, newStep_first hn]
    exact newStep_low fun z hz => by have := hb z hz; show z.1 < q + 1; omega
  refine ⟨by rw [e]; exact ⟨rfl, rfl⟩, fun x hx y hy => ?_⟩
  simp only [List.mem_cons, List.mem_nil_iff, or_false] at hx
  rcases hx with rfl | rfl
  · rw [hn] at hy; cases hy; exact Nat.le_refl _
  · have := hb y hy; omega
theorem SlotsAt.next1 {q : Nat} {s t a b : Bs} (h : SlotsAt q s a b) (hq : q + 1 < 2 ^ 64) (ht : t.length ≤ 65528) : SlotsAt (q + 1) t a (numbF (q + 1) t) := by
  have hn : numb (numbF (q + 1) t) = some (q + 1, t) := by have := numb_join (n := q + 1) (b := t) (t := []) hq ht; rwa [List.append_nil] at this
  have ha := h.good a (by simp)
  have e : newL [a, numbF (q + 1) t] = some (q + 1, t) := by
    rw [newL_two]
    exact newStep_big hn fun z hz => by have := newStep_old ha z hz; show z.1 < q + 1; omega
  refine ⟨by rw [e]; exact ⟨rfl, rfl⟩, fun x hx y hy => ?_⟩
  simp only [List.mem_cons, List.mem_nil_iff, or_false] at hx
  rcases hx with rfl | rfl
  · have := ha y hy; omega
  · rw [hn] at hy; cases hy; exact Nat.le_refl _

/-- The disk of the law: two slots that last, an empty log. -/
def dQ (a b : Bs) : DDk := jd (sA a) (sA b) (sA []) 90000
/-- One turn of the law. -/
theorem dQ_turn {q : Nat} {s a b x : Bs} (h : SlotsAt q s a b) (hq : q ≤ 20) (ha : a.length ≤ 1000) (hb : b.length ≤ 1000) (hx : x.length ≤ 800) :
    ∃ a' b', SlotsAt (q + 1) x a' b' ∧ a'.length ≤ 1000 ∧ b'.length ≤ 1000 ∧ cpE (appendD (dQ a b) 2 (numbF q x)) q x = 0 ∧ cpD (appendD (dQ a b) 2 (numbF q x)) q x = dQ a' b' ∧ cpQ (appendD (dQ a b) 2 (numbF q x)) q x = q + 1 ∧
      (dQ a' b').readL ((q + 1) % 2 : Nat) = numbF (q + 1) x ∧ appendE (dQ a b) 2 (numbF q x) = 0 := by
  have hl := numbF_length q x
  have hl2 := numbF_length (q + 1) x
  obtain ⟨h1, h2⟩ := jd_append (sA a) (sA b) (sA []) 90000 (numbF q x) (by rw [sA_now, sA_now, sA_now, hl, List.length_nil]; omega)
  have h2 : appendD (dQ a b) 2 (numbF q x) = jd (sA a) (sA b) ⟨[], [] ++ (numbF q x).map .byte⟩ 90000 := h2
  have hc : (⟨[], [] ++ (numbF q x).map .byte⟩ : DAr).now = numbF q x := by
    have := now_more (sA []) (numbF q x)
    rw [sA_now, List.nil_append] at this
    exact this
  rw [h2]
  by_cases hp : (q + 1) % 2 = 0
  · obtain ⟨h3, h4, h5⟩ := jd_cp0 (sA a) (sA b) ⟨[], [] ++ (numbF q x).map .byte⟩ 90000 q x hp (by rw [hc, hl, sA_now]; omega)
    exact ⟨numbF (q + 1) x, b, h.next0 (by omega) (by omega), by omega, hb, h3, h4, h5, by rw [hp]; exact jd_read0 _ _ _ _, h1⟩
  · have hp : (q + 1) % 2 = 1 := by omega
    obtain ⟨h3, h4, h5⟩ := jd_cp1 (sA a) (sA b) ⟨[], [] ++ (numbF q x).map .byte⟩ 90000 q x hp (by rw [hc, hl, sA_now]; omega)
    exact ⟨a, numbF (q + 1) x, h.next1 (by omega) (by omega), ha, by omega, h3, h4, h5, by rw [hp]; exact jd_read1 _ _ _ _, h1⟩
theorem dQ_open {q : Nat} {s a b : Bs} (h : SlotsAt q s a b) : seqO (openO (dQ a b)) = q ∧ staO (openO (dQ a b)) = s ∧ openR (dQ a b) = [] ∧ openE (dQ a b) = 0 ∧ openD (dQ a b) = dQ a b ∧ lenR (openR (dQ a b)) = ((dQ a b).readL 2).length := by
  obtain ⟨h1, h2, h3, h4⟩ := jd_open (sA a) (sA b) (sA []) 90000
  unfold dQ
  rw [h1, h2, h4, sA_now, sA_now, sA_now, recL_nil, jd_read2]
  exact ⟨h.open_.1, h.open_.2, rfl, h3, if_neg (by rw [lenR_nil]; simp), rfl⟩
end Go.Proofs.Ytojkifcclgecoaa
namespace Go.Proofs.Ytojkifcclgecoaa
open Go Go.RowKit Go.Shelf Go.Proofs Go.Proofs.Ytojkifcclgecoaa.Dk

/-- How much a row has: one for each, and its bytes. -/
def sum1 (l : List BX) : Nat := (l.map fun x => 1 + x.b.length).sum
theorem sum1_snoc {l : List BX} {k : Nat} {x : BX} (h : l[k]? = some x) : sum1 (l.take (k + 1)) = sum1 (l.take k) + 1 + x.b.length := by
  unfold sum1; rw [List.take_add_one, h]; simp; omega
theorem sum1_take (l : List BX) (k : Nat) : sum1 (l.take k) ≤ sum1 l := by
  unfold sum1
  conv => rhs; rw [← List.take_append_drop k l, List.map_append, List.sum_append]
  omega
theorem sum1_mem {l : List BX} {x : BX} (h : x ∈ l) : 1 + x.b.length ≤ sum1 l := by
  unfold sum1
  induction l with
  | nil => cases h
  | cons y l ih =>
    rw [List.map_cons, List.sum_cons]
    rcases List.mem_cons.1 h with rfl | h
    · omega
    · have := ih h; omega
theorem sum1_big {l : List BX} (h : ∀ x ∈ l, x.b.length ≤ reachBytes) : sum1 l ≤ l.length * (reachBytes + 1) := by
  unfold sum1
  induction l with
  | nil => simp
  | cons x l ih =>
    have h1 := ih (fun y hy => h y (List.mem_cons_of_mem _ hy))
    have h2 := h x (List.mem_cons_self ..)
    rw [List.map_cons, List.sum_cons, List.length_cons, Nat.add_mul]
    omega
/-- A row of bytes, place by place, in whatever world comes. -/
theorem brow_at {w : World} {A : Option Addr} {c : Nat} {l : List BX} (h : BRowAt w A c l) (hn : ∀ x ∈ l, x.A = none → x.c = 0) (i : Nat) (hi : i < l.length) : ∃ g o x, A = some ⟨g, o, none⟩ ∧ l[i]? = some x ∧ ∀ W, Below w.heap.size w W → W.cell? ⟨g, o + i, none⟩ = some (.slice x.A x.b.length x.c) ∧ SlAt W x.A x.c x.b := by
  obtain ⟨x, hx⟩ : ∃ x, l[i]? = some x := ⟨_, List.getElem?_eq_getElem hi⟩
  obtain ⟨g, o, e, hc⟩ := h.row (by omega)
  have hm := List.mem_of_getElem? hx
  have hcw := hc i x hx
  exact ⟨g, o, x, e, hx, fun W hW => ⟨(hW.cell (p := ⟨g, o + i, none⟩) (World.block_lt_of_cell? w (a := ⟨g, o + i, none⟩) hcw)).trans hcw, (show SlAt w x.A x.c x.b from ⟨h.bytes x hm, (h.caps x hm).1, (h.caps x hm).2.1, hn x hm⟩).below hW⟩⟩

set_option maxRecDepth 100000 in
set_option maxHeartbeats 16000000 in
theorem journalseqs_any (A0 : Option Addr) (c0 : Nat) (l0 : List BX) (w : World) (h0 : BRowAt w A0 c0 l0) (n0 : ∀ x ∈ l0, x.A = none → x.c = 0) :
    Calls Try.prog 5 #[.slice A0 l0.length c0] w fun e w' => e = .returned (.bool true) ∧ Below w.heap.size w w' := by
  have R0 := Lib.hid (brow_at h0 n0)
  have hcp := h0.cap
  have hcm := h0.capm
  have hcm : c0 ≤ 9223372036854775807 := by unfold maxLen at hcm; omega
  by_cases hsm : l0.length ≤ 20
  · have hs0 : sum1 l0 ≤ 20 * (reachBytes + 1) := Nat.le_trans (sum1_big (fun x hx => (h0.caps x hx).2.2)) (Nat.mul_le_mul_right _ hsm)
    have hs0 : sum1 l0 ≤ 9000000000000000 := by unfold reachBytes at hs0; omega
    have HS0 := Lib.hid hs0
    have q0 : ((20 : Int) < (l0.length : Int)) = False := eq_false (by omega)
    clear hs0 h0 n0
    go_enter Try.func5, Try.ntmps5
    go_wp2_with fail
    go_loop [3, 4] (fun s y => ∃ (i : Nat), i ≤ l0.length ∧ s = .int .i64 (sum1 (l0.take i) : Nat) ∧ y = .int .i64 i) (fun _ y => l0.length - (intOf y).toNat)
    case atStart => exact ⟨0, Nat.zero_le _, rfl, rfl⟩
    case round =>
      obtain ⟨i, hi, rfl, rfl⟩ := hrel
      by_cases k1 : i < l0.length
      · obtain ⟨g, o, x, rfl, hx, hW⟩ := R0.out i k1
        obtain ⟨hc, _⟩ := hW w (Below.refl _ _)
        have k2 : (i : Int) < (l0.length : Int) := by omega
        have k3 : (i : Int) < (c0 : Int) := by omega
        have hsn := sum1_snoc hx
        have hle := sum1_take l0 (i + 1)
        have hb := HS0.out
        have hub : sum1 (l0.take i) + 1 + x.b.length ≤ 9000000000000000 := by omega
        have HSN := Lib.hid hsn
        clear hsn hle hb hx hW
        generalize sum1 (l0.take i) = U at *
        go_wp2_with fail
        go_round
        case rel => exact ⟨i + 1, by omega, by rw [HSN.out]; go_num, by go_num⟩
        case measure => simp [intOf]; omega
      · obtain rfl : i = l0.length := by omega
        rw [List.take_length]
        have hbb := HS0.out
        obtain ⟨U, hU⟩ : ∃ U, sum1 l0 = U := ⟨_, rfl⟩
        rw [hU]
        have hUb : U ≤ 9000000000000000 := by omega
        have HU := Lib.hid hU
        clear hU hbb
        by_cases h800 : U ≤ 800
        · have q1 : ((800 : Int) < (U : Int)) = False := eq_false (by omega)
          have HN := Lib.hid (new_ds w 3 90000)
          rw [show (DDk.new 3 90000) = dQ [] [] from jd_new 90000 (by omega)] at HN
          go_wp2_with fail
          refine HN.out.mono ?_
          rintro e w1 ⟨g, rfl, who1, hD1, ht1⟩
          obtain ⟨z1, z2, z3, z4, z5, z6⟩ := dQ_open slots_zero
          have HO := Lib.hid (open_any _ _ _ _ _ _ _ hD1 (by omega) (by omega) rfl z4)
          have HT1 := Lib.hid (ht1.wider (Nat.le_refl 1) (show 27 ≤ 28 by omega))
          have Z1 := Lib.hid z1
          have Z5 := Lib.hid z5
          clear hD1 ht1 HN z1 z2 z3 z4 z5 z6
          go_wp2_with fail
          refine HO.out.mono ?_
          rintro e w2 ⟨gj, A2, c2, B2, d2, rows, who2, rfl, hj2, ht2, _, _, _, _⟩
          rw [Z1.out, Z5.out] at hj2
          have HJ2 := Lib.hid hj2
          have HT2 := Lib.hid (HT1.out.trans ht2)
          clear hj2 ht2 HO HT1
          go_wp2_with fail
          go_loopw [10] (fun y wr => ∃ (i : Nat) (s a b : Bs) (who : Nat → Nat), i ≤ l0.length ∧ y = .int .i64 i ∧ Hid (SlotsAt i s a b) ∧ Hid (a.length ≤ 1000 ∧ b.length ≤ 1000) ∧ Hid (JS w.heap.size who wr 1 g gj (dQ a b) (60 * i + 2 * sum1 (l0.take i) + 1) i) ∧ Hid (Turn 1 28 (fun _ => 0) w who wr)) (fun y _ => l0.length - (intOf y).toNat)
          case atStart => exact ⟨0, [], [], [], who2, Nat.zero_le _, rfl, slots_zero, (show ([] : Bs).length ≤ 1000 ∧ ([] : Bs).length ≤ 1000 from ⟨by simp, by simp⟩), HJ2, HT2⟩
          case round =>
            obtain ⟨i, s, a, b, who, hi, rfl, HS, HL, HJ, HT⟩ := hrel
            by_cases k1 : i < l0.length
            · obtain ⟨g0, o0, x, rfl, hx, hW⟩ := R0.out i k1
              have k2 : (i : Int) < (l0.length : Int) := by omega
              have k3 : (i : Int) < (c0 : Int) := by omega
              have HCX := Lib.hid (fun W hb => (hW W hb).1)
              have HSX := Lib.hid (fun W hb => (hW W hb).2)
              have cx := HCX.out wr (HT.out.zero (by omega))
              have hsn := sum1_snoc hx
              have hle := sum1_take l0 (i + 1)
              have hU2 := HU.out
              have hmem := sum1_mem (List.mem_of_getElem? hx)
              obtain ⟨a', b', f1, f2, f3, f4, f5, f6, f7, f8⟩ := dQ_turn HS.out (by omega : i ≤ 20) HL.out.1 HL.out.2 (by omega : x.b.length ≤ 800)
              have HAP := Lib.hid (jappend_any HJ.out (by omega) (by omega) (HSX.out wr (HT.out.zero (by omega))) (by omega))
              have F1 := Lib.hid f1
              have F2 := Lib.hid (show a'.length ≤ 1000 ∧ b'.length ≤ 1000 from ⟨f2, f3⟩)
              have F4 := Lib.hid f4
              have F5 := Lib.hid f5
              have F6 := Lib.hid f6
              have HRS := Lib.hid f7
              have hxl : x.b.length ≤ 800 := by omega
              have HSN := Lib.hid hsn
              have HBD := Lib.hid (show 60 * (i + 1) + 2 * sum1 (l0.take (i + 1)) + 1 ≤ 5000 by omega)
              obtain ⟨N, hN⟩ : ∃ N, 60 * i + 2 * sum1 (l0.take i) + 1 = N := ⟨_, rfl⟩
              rw [hN] at HAP
              have HNN := Lib.hid (show N + (16 + x.b.length) + 2 + (16 + x.b.length) + 1 ≤ 60 * (i + 1) + 2 * sum1 (l0.take (i + 1)) + 1 by omega)
              have HNB := Lib.hid (show N + (16 + x.b.length) + 2 + (16 + x.b.length) ≤ 1000000 by omega)
              have HRD2 := Lib.hid (show ((dQ a' b').readL 2).length = 0 from by unfold dQ; rw [jd_read2]; rfl)
              have HNL := Lib.hid (numbF_length (i + 1) x.b)
              have HX := Lib.hid hx
              clear hsn hle hU2 hmem f1 f2 f3 f4 f5 f6 f7 f8 hW hx hN
              go_wp2_with fail
              refine HAP.out.mono ?_
              rintro e w5 ⟨rfl, who5, hj5, ht5⟩
              have HT5 := Lib.hid ((HT.out.trans ht5).trans (Turn.below (jn_drew w5)))
              have hj5 := hj5.below (jn_drew w5)
              have HCP := Lib.hid (checkpoint_any hj5 (by omega) (HSX.out w5.drew (HT5.out.zero (by omega))) (by omega) HNB.out (by omega))
              rw [F4.out, F5.out, F6.out] at HCP
              have cx5 := HCX.out w5 ((HT.out.trans ht5).zero (by omega))
              have wc : IntKind.u64.wrap (i : Int) = (i : Int) := IntWalk.u64_in _ (by omega)
              have wd : IntKind.u64.wrap ((i : Int) + 1) = ((i + 1 : Nat) : Int) := by rw [IntWalk.u64_in _ (by omega)]; rfl
              have we : IntKind.i64.wrap ((i : Int) + 1) = ((i + 1 : Nat) : Int) := by rw [IntWalk.i64_in _ (by omega)]; rfl
              have wf : ((i + 1 : Nat) : Int) % 2 = (((i + 1) % 2 : Nat) : Int) := by omega
              have wg : IntKind.i64.wrap (16 + (x.b.length : Int)) = 16 + (x.b.length : Int) := IntWalk.i64_in _ (by omega)
              clear hj5 ht5 HAP cx
              go_wp2_with fail
              refine wp_region_held_drew (S := (fun w' => w'.cell? ⟨g0, o0 + i, none⟩ = some (.slice x.A x.b.length x.c) ∧ AnyA w')) (by kernel_rfl) ⟨cx5, trivial⟩ (fun hHeld => ?_)
              refine wpAnyH_take (i := 0) (v := ?vq0) rfl (by kernel_rfl) (by kernel_rfl) (by kernel_rfl) (fun _ _ _ h => h) (Or.inl ⟨by rfl, ?yq0⟩) (by assumption) ?rq0
              case yq0 =>
                intro w hSw
                (try dsimp only at hSw)
                go_simp
                first | done | with_reducible rfl
              try simp only [Act.put, List.getElem_toArray, List.getElem_cons_zero, List.setIfInBounds_toArray, List.set_cons_zero, List.set_cons_succ]
              refine wpAnyH_take (i := 1) (v := ?vq1) rfl (by kernel_rfl) (by kernel_rfl) (by kernel_rfl) (fun _ _ _ h => h) (Or.inl ⟨by rfl, ?yq1⟩) (by assumption) ?rq1
              case yq1 =>
                intro w hSw
                (try dsimp only at hSw)
                go_simp
                first | done | with_reducible rfl
              try simp only [Act.put, List.getElem_toArray, List.getElem_cons_zero, List.getElem_cons_succ, List.setIfInBounds_toArray, List.set_cons_zero, List.set_cons_succ]
              refine wpAnyH_take (i := 2) (v := ?vq2) rfl (by kernel_rfl) (by kernel_rfl) (by kernel_rfl) (fun _ _ _ h => h) (Or.inl ⟨by rfl, ?yq2⟩) (by assumption) ?rq2
              case yq2 =>
                intro w hSw
                (try dsimp only at hSw)
                go_simp
                first | done | with_reducible rfl
              try simp only [Act.put, List.getElem_toArray, List.getElem_cons_zero, List.getElem_cons_succ, List.setIfInBounds_toArray, List.set_cons_zero, List.set_cons_succ]
              refine wpAnyH_take (i := 3) (v := ?vq3) rfl (by kernel_rfl) (by kernel_rfl) (by kernel_rfl) (fun _ _ _ h => h) (Or.inl ⟨by rfl, ?yq3⟩) (by assumption) ?rq3
              case yq3 =>
                intro w hSw
                (try dsimp only at hSw)
                go_simp
                first | done | with_reducible rfl
              try simp only [Act.put, List.getElem_toArray, List.getElem_cons_zero, List.getElem_cons_succ, List.setIfInBounds_toArray, List.set_cons_zero, List.set_cons_succ]
              refine wpAnyH_take (i := 4) (v := ?vq4) rfl (by kernel_rfl) (by kernel_rfl) (by kernel_rfl) (fun _ _ _ h => h) (Or.inl ⟨by rfl, ?yq4⟩) (by assumption) ?rq4
              case yq4 =>
                intro w hSw
                (try dsimp only at hSw)
                go_simp
                first | done | with_reducible rfl
              try simp only [Act.put, List.getElem_toArray, List.getElem_cons_zero, List.getElem_cons_succ, List.setIfInBounds_toArray, List.set_cons_zero, List.set_cons_succ]
              refine wpAnyH_ready (rs := [5]) (by kernel_rfl) (by simp) ?_
              refine AllReadyH.cons rfl (fun K hK => ?_) AllReadyH.nil
              go_simp
              refine HCP.out.mono ?_
              rintro e w6 ⟨rfl, who6, hj6, ht6⟩
              have HT6 := Lib.hid (HT5.out.trans ht6)
              have HJ6 := Lib.hid hj6
              have cx6 := HCX.out w6 (HT6.out.zero (by omega))
              have HSQ := Lib.hid (jseq_any HJ6.out)
              have HUS := Lib.hid (jused_any HJ6.out HNB.out)
              rw [HRD2.out] at HUS
              clear hj6 ht6 HCP
              go_wp2_with fail
              refine hK.out _ _ ⟨cx6, trivial⟩ (fun hHeld => ?_)
              clear hK K
              try simp only [Act.put, List.getElem_toArray, List.getElem_cons_zero, List.getElem_cons_succ, List.setIfInBounds_toArray, List.set_cons_zero, List.set_cons_succ]
              refine wpAnyH_take (i := 6) (v := ?vq6) rfl (by kernel_rfl) (by kernel_rfl) (by kernel_rfl) (fun _ _ _ h => h) (Or.inl ⟨by rfl, ?yq6⟩) (by assumption) ?rq6
              case yq6 =>
                intro w hSw
                (try dsimp only at hSw)
                go_simp
                first | done | with_reducible rfl
              try simp only [Act.put, List.getElem_toArray, List.getElem_cons_zero, List.getElem_cons_succ, List.setIfInBounds_toArray, List.set_cons_zero, List.set_cons_succ]
              refine wpAnyH_take (i := 7) (v := ?vq7) rfl (by kernel_rfl) (by kernel_rfl) (by kernel_rfl) (fun _ _ _ h => h) (Or.inl ⟨by rfl, ?yq7⟩) (by assumption) ?rq7
              case yq7 =>
                intro w hSw
                (try dsimp only at hSw)
                go_simp
                first | done | with_reducible rfl
              try simp only [Act.put, List.getElem_toArray, List.getElem_cons_zero, List.getElem_cons_succ, List.setIfInBounds_toArray, List.set_cons_zero, List.set_cons_succ]
              refine wpAnyH_take (i := 8) (v := ?vq8) rfl (by kernel_rfl) (by kernel_rfl) (by kernel_rfl) (fun _ _ _ h => h) (Or.inl ⟨by rfl, ?yq8⟩) (by assumption) ?rq8
              case yq8 =>
                intro w hSw
                (try dsimp only at hSw)
                go_simp
                first | done | with_reducible rfl
              try simp only [Act.put, List.getElem_toArray, List.getElem_cons_zero, List.getElem_cons_succ, List.setIfInBounds_toArray, List.set_cons_zero, List.set_cons_succ]
              refine wpAnyH_take (i := 10) (v := ?vq10) rfl (by kernel_rfl) (by kernel_rfl) (by kernel_rfl) (fun _ _ _ h => h) (Or.inl ⟨by rfl, ?yq10⟩) (by assumption) ?rq10
              case yq10 =>
                intro w hSw
                (try dsimp only at hSw)
                go_simp
                first | done | with_reducible rfl
              try simp only [Act.put, List.getElem_toArray, List.getElem_cons_zero, List.getElem_cons_succ, List.setIfInBounds_toArray, List.set_cons_zero, List.set_cons_succ]
              refine wpAnyH_take (i := 11) (v := ?vq11) rfl (by kernel_rfl) (by kernel_rfl) (by kernel_rfl) (fun _ _ _ h => h) (Or.inl ⟨by rfl, ?yq11⟩) (by assumption) ?rq11
              case yq11 =>
                intro w hSw
                (try dsimp only at hSw)
                go_simp
                first | done | with_reducible rfl
              try simp only [Act.put, List.getElem_toArray, List.getElem_cons_zero, List.getElem_cons_succ, List.setIfInBounds_toArray, List.set_cons_zero, List.set_cons_succ]
              refine wpAnyH_take (i := 12) (v := ?vq12) rfl (by kernel_rfl) (by kernel_rfl) (by kernel_rfl) (fun _ _ _ h => h) (Or.inl ⟨by rfl, ?yq12⟩) (by assumption) ?rq12
              case yq12 =>
                intro w hSw
                (try dsimp only at hSw)
                go_simp
                first | done | with_reducible rfl
              try simp only [Act.put, List.getElem_toArray, List.getElem_cons_zero, List.getElem_cons_succ, List.setIfInBounds_toArray, List.set_cons_zero, List.set_cons_succ]
              refine wpAnyH_ready (rs := [9]) (by kernel_rfl) (by simp) ?_
              refine AllReadyH.cons rfl (fun K hK => ?_) AllReadyH.nil
              go_simp
              refine HSQ.out.mono ?_
              rintro e w7 ⟨rfl, hw⟩
              have hw := hw.symm
              subst hw
              go_wp2_with fail
              refine hK.out _ _ ⟨cx6, trivial⟩ (fun hHeld => ?_)
              clear hK K
              try simp only [Act.put, List.getElem_toArray, List.getElem_cons_zero, List.getElem_cons_succ, List.setIfInBounds_toArray, List.set_cons_zero, List.set_cons_succ]
              refine wpAnyH_take (i := 13) (v := ?vq13) rfl (by kernel_rfl) (by kernel_rfl) (by kernel_rfl) (fun _ _ _ h => h) (Or.inl ⟨by rfl, ?yq13⟩) (by assumption) ?rq13
              case yq13 =>
                intro w hSw
                (try dsimp only at hSw)
                go_simp
                first | done | with_reducible rfl
              try simp only [Act.put, List.getElem_toArray, List.getElem_cons_zero, List.getElem_cons_succ, List.setIfInBounds_toArray, List.set_cons_zero, List.set_cons_succ]
              refine wpAnyH_take (i := 14) (v := ?vq14) rfl (by kernel_rfl) (by kernel_rfl) (by kernel_rfl) (fun _ _ _ h => h) (Or.inl ⟨by rfl, ?yq14⟩) (by assumption) ?rq14
              case yq14 =>
                intro w hSw
                (try dsimp only at hSw)
                go_simp
                first | done | with_reducible rfl
              try simp only [Act.put, List.getElem_toArray, List.getElem_cons_zero, List.getElem_cons_succ, List.setIfInBounds_toArray, List.set_cons_zero, List.set_cons_succ]
              refine wpAnyH_take (i := 15) (v := ?vq15) rfl (by kernel_rfl) (by kernel_rfl) (by kernel_rfl) (fun _ _ _ h => h) (Or.inl ⟨by rfl, ?yq15⟩) (by assumption) ?rq15
              case yq15 =>
                intro w hSw
                (try dsimp only at hSw)
                go_simp
                first | done | with_reducible rfl
              try simp only [Act.put, List.getElem_toArray, List.getElem_cons_zero, List.getElem_cons_succ, List.setIfInBounds_toArray, List.set_cons_zero, List.set_cons_succ]
              refine wpAnyH_take (i := 16) (v := ?vq16) rfl (by kernel_rfl) (by kernel_rfl) (by kernel_rfl) (fun _ _ _ h => h) (Or.inl ⟨by rfl, ?yq16⟩) (by assumption) ?rq16
              case yq16 =>
                intro w hSw
                (try dsimp only at hSw)
                go_simp
                first | done | with_reducible rfl
              try simp only [Act.put, List.getElem_toArray, List.getElem_cons_zero, List.getElem_cons_succ, List.setIfInBounds_toArray, List.set_cons_zero, List.set_cons_succ]
              refine wpAnyH_ready (rs := [17]) (by kernel_rfl) (by simp) ?_
              refine AllReadyH.cons rfl (fun K hK => ?_) AllReadyH.nil
              go_simp
              refine HUS.out.mono ?_
              rintro e w8 ⟨rfl, hb8⟩
              have HT8 := Lib.hid (HT6.out.trans (Turn.below hb8))
              have HJ8 := Lib.hid (HJ6.out.below hb8)
              have cx8 := HCX.out w8 (HT8.out.zero (by omega))
              have HRD := Lib.hid (HJ8.out.ds.read HNB.out ((i + 1) % 2 : Nat))
              rw [HRS.out] at HRD
              clear hb8 HUS
              go_wp2_with fail
              refine hK.out _ _ ⟨cx8, trivial⟩ (fun hHeld => ?_)
              clear hK K
              try simp only [Act.put, List.getElem_toArray, List.getElem_cons_zero, List.getElem_cons_succ, List.setIfInBounds_toArray, List.set_cons_zero, List.set_cons_succ]
              refine wpAnyH_take (i := 18) (v := ?vq18) rfl (by kernel_rfl) (by kernel_rfl) (by kernel_rfl) (fun _ _ _ h => h) (Or.inl ⟨by rfl, ?yq18⟩) (by assumption) ?rq18
              case yq18 =>
                intro w hSw
                (try dsimp only at hSw)
                go_simp
                first | done | with_reducible rfl
              try simp only [Act.put, List.getElem_toArray, List.getElem_cons_zero, List.getElem_cons_succ, List.setIfInBounds_toArray, List.set_cons_zero, List.set_cons_succ]
              refine wpAnyH_take (i := 19) (v := ?vq19) rfl (by kernel_rfl) (by kernel_rfl) (by kernel_rfl) (fun _ _ _ h => h) (Or.inl ⟨by rfl, ?yq19⟩) (by assumption) ?rq19
              case yq19 =>
                intro w hSw
                (try dsimp only at hSw)
                go_simp
                first | done | with_reducible rfl
              try simp only [Act.put, List.getElem_toArray, List.getElem_cons_zero, List.getElem_cons_succ, List.setIfInBounds_toArray, List.set_cons_zero, List.set_cons_succ]
              refine wpAnyH_take (i := 20) (v := ?vq20) rfl (by kernel_rfl) (by kernel_rfl) (by kernel_rfl) (fun _ _ _ h => h) (Or.inl ⟨by rfl, ?yq20⟩) (by assumption) ?rq20
              case yq20 =>
                intro w hSw
                (try dsimp only at hSw)
                go_simp
                first | done | with_reducible rfl
              try simp only [Act.put, List.getElem_toArray, List.getElem_cons_zero, List.getElem_cons_succ, List.setIfInBounds_toArray, List.set_cons_zero, List.set_cons_succ]
              refine wpAnyH_take (i := 21) (v := ?vq21) rfl (by kernel_rfl) (by kernel_rfl) (by kernel_rfl) (fun _ _ _ h => h) (Or.inl ⟨by rfl, ?yq21⟩) (by assumption) ?rq21
              case yq21 =>
                intro w hSw
                (try dsimp only at hSw)
                go_simp
                first | done | with_reducible rfl
              try simp only [Act.put, List.getElem_toArray, List.getElem_cons_zero, List.getElem_cons_succ, List.setIfInBounds_toArray, List.set_cons_zero, List.set_cons_succ]
              refine wpAnyH_take (i := 22) (v := ?vq22) rfl (by kernel_rfl) (by kernel_rfl) (by kernel_rfl) (fun _ _ _ h => h) (Or.inl ⟨by rfl, ?yq22⟩) (by assumption) ?rq22
              case yq22 =>
                intro w hSw
                (try dsimp only at hSw)
                go_simp
                first | done | with_reducible rfl
              try simp only [Act.put, List.getElem_toArray, List.getElem_cons_zero, List.getElem_cons_succ, List.setIfInBounds_toArray, List.set_cons_zero, List.set_cons_succ]
              refine wpAnyH_take (i := 23) (v := ?vq23) rfl (by kernel_rfl) (by kernel_rfl) (by kernel_rfl) (fun _ _ _ h => h) (Or.inl ⟨by rfl, ?yq23⟩) (by assumption) ?rq23
              case yq23 =>
                intro w hSw
                (try dsimp only at hSw)
                go_simp
                first | done | with_reducible rfl
              try simp only [Act.put, List.getElem_toArray, List.getElem_cons_zero, List.getElem_cons_succ, List.setIfInBounds_toArray, List.set_cons_zero, List.set_cons_succ]
              refine wpAnyH_take (i := 24) (v := ?vq24) rfl (by kernel_rfl) (by kernel_rfl) (by kernel_rfl) (fun _ _ _ h => h) (Or.inl ⟨by rfl, ?yq24⟩) (by assumption) ?rq24
              case yq24 =>
                intro w hSw
                (try dsimp only at hSw)
                go_simp
                first | done | with_reducible rfl
              try simp only [Act.put, List.getElem_toArray, List.getElem_cons_zero, List.getElem_cons_succ, List.setIfInBounds_toArray, List.set_cons_zero, List.set_cons_succ]
              refine wpAnyH_take (i := 27) (v := ?vq27) rfl (by kernel_rfl) (by kernel_rfl) (by kernel_rfl) (fun _ _ _ h => h) (Or.inl ⟨by rfl, ?yq27⟩) (by assumption) ?rq27
              case yq27 =>
                intro w hSw
                (try dsimp only at hSw)
                go_simp
                first | done | with_reducible rfl
              try simp only [Act.put, List.getElem_toArray, List.getElem_cons_zero, List.getElem_cons_succ, List.setIfInBounds_toArray, List.set_cons_zero, List.set_cons_succ]
              refine wpAnyH_take (i := 28) (v := ?vq28) rfl (by kernel_rfl) (by kernel_rfl) (by kernel_rfl) (fun _ _ _ h => h) (Or.inl ⟨by rfl, ?yq28⟩) (by assumption) ?rq28
              case yq28 =>
                intro w hSw
                (try dsimp only at hSw)
                go_simp
                first | done | with_reducible rfl
              try simp only [Act.put, List.getElem_toArray, List.getElem_cons_zero, List.getElem_cons_succ, List.setIfInBounds_toArray, List.set_cons_zero, List.set_cons_succ]
              refine wpAnyH_take (i := 29) (v := ?vq29) rfl (by kernel_rfl) (by kernel_rfl) (by kernel_rfl) (fun _ _ _ h => h) (Or.inl ⟨by rfl, ?yq29⟩) (by assumption) ?rq29
              case yq29 =>
                intro w hSw
                (try dsimp only at hSw)
                go_simp
                first | done | with_reducible rfl
              try simp only [Act.put, List.getElem_toArray, List.getElem_cons_zero, List.getElem_cons_succ, List.setIfInBounds_toArray, List.set_cons_zero, List.set_cons_succ]
              refine wpAnyH_take (i := 30) (v := ?vq30) rfl (by kernel_rfl) (by kernel_rfl) (by kernel_rfl) (fun _ _ _ h => h) (Or.inl ⟨by rfl, ?yq30⟩) (by assumption) ?rq30
              case yq30 =>
                intro w hSw
                (try dsimp only at hSw)
                go_simp
                first | done | with_reducible rfl
              try simp only [Act.put, List.getElem_toArray, List.getElem_cons_zero, List.getElem_cons_succ, List.setIfInBounds_toArray, List.set_cons_zero, List.set_cons_succ]
              refine wpAnyH_take (i := 31) (v := ?vq31) rfl (by kernel_rfl) (by kernel_rfl) (by kernel_rfl) (fun _ _ _ h => h) (Or.inl ⟨by rfl, ?yq31⟩) (by assumption) ?rq31
              case yq31 =>
                intro w hSw
                (try dsimp only at hSw)
                go_simp
                first | done | with_reducible rfl
              try simp only [Act.put, List.getElem_toArray, List.getElem_cons_zero, List.getElem_cons_succ, List.setIfInBounds_toArray, List.set_cons_zero, List.set_cons_succ]
              refine wpAnyH_take (i := 32) (v := ?vq32) rfl (by kernel_rfl) (by kernel_rfl) (by kernel_rfl) (fun _ _ _ h => h) (Or.inl ⟨by rfl, ?yq32⟩) (by assumption) ?rq32
              case yq32 =>
                intro w hSw
                (try dsimp only at hSw)
                go_simp
                first | done | with_reducible rfl
              try simp only [Act.put, List.getElem_toArray, List.getElem_cons_zero, List.getElem_cons_succ, List.setIfInBounds_toArray, List.set_cons_zero, List.set_cons_succ]
              refine wpAnyH_ready (rs := [25]) (by kernel_rfl) (by simp) ?_
              refine AllReadyH.cons rfl (fun K hK => ?_) AllReadyH.nil
              go_simp
              refine HRD.out.mono ?_
              rintro e w9 ⟨v9, rfl, ho9, hb9⟩
              obtain ⟨A9, c9, rfl, hs9, _⟩ := (dk_ob ho9).sl
              have HT9 := Lib.hid (HT8.out.trans (Turn.below hb9))
              have HJ9 := Lib.hid (HJ8.out.below hb9)
              have cx9 := HCX.out w9 (HT9.out.zero (by omega))
              rw [HNL.out]
              clear ho9 hs9 hb9 HRD
              go_wp2_with fail
              refine hK.out _ _ ⟨cx9, trivial⟩ (fun hHeld => ?_)
              clear hK K
              try simp only [Act.put, List.getElem_toArray, List.getElem_cons_zero, List.getElem_cons_succ, List.setIfInBounds_toArray, List.set_cons_zero, List.set_cons_succ]
              refine wpAnyH_take (i := 26) (v := ?vq26) rfl (by kernel_rfl) (by kernel_rfl) (by kernel_rfl) (fun _ _ _ h => h) (Or.inl ⟨by rfl, ?yq26⟩) (by assumption) ?rq26
              case yq26 =>
                intro w hSw
                (try dsimp only at hSw)
                go_simp
                first | done | with_reducible rfl
              try simp only [Act.put, List.getElem_toArray, List.getElem_cons_zero, List.getElem_cons_succ, List.setIfInBounds_toArray, List.set_cons_zero, List.set_cons_succ]
              refine wpAnyH_take (i := 33) (v := ?vq33) rfl (by kernel_rfl) (by kernel_rfl) (by kernel_rfl) (fun _ _ _ h => h) (Or.inl ⟨by rfl, ?yq33⟩) (by assumption) ?rq33
              case yq33 =>
                intro w hSw
                (try dsimp only at hSw)
                go_simp
                first | done | with_reducible rfl
              try simp only [Act.put, List.getElem_toArray, List.getElem_cons_zero, List.getElem_cons_succ, List.setIfInBounds_toArray, List.set_cons_zero, List.set_cons_succ]
              refine wpAnyH_take (i := 34) (v := ?vq34) rfl (by kernel_rfl) (by kernel_rfl) (by kernel_rfl) (fun _ _ _ h => h) (Or.inl ⟨by rfl, ?yq34⟩) (by assumption) ?rq34
              case yq34 =>
                intro w hSw
                (try dsimp only at hSw)
                go_simp
                first | done | with_reducible rfl
              try simp only [Act.put, List.getElem_toArray, List.getElem_cons_zero, List.getElem_cons_succ, List.setIfInBounds_toArray, List.set_cons_zero, List.set_cons_succ]
              refine wpAnyH_done (by kernel_rfl) ?_ _
              obtain ⟨z1, z2, z3, z4, z5, z6⟩ := dQ_open F1.out
              have HO9 := Lib.hid (open_any _ _ _ _ _ _ _ HJ9.out.ds (by omega) (by have := HNN.out; have := HBD.out; omega) rfl z4)
              have Z1 := Lib.hid z1
              have Z2 := Lib.hid z2
              have Z3 := Lib.hid z3
              have Z5 := Lib.hid z5
              have Z6 := Lib.hid z6
              clear hHeld cx5 cx6 cx8 HSQ HT8 HT6 HT5 HJ8 HJ6 HJ z1 z2 z3 z4 z5 z6
              go_wp2_with fail
              refine HO9.out.mono ?_
              rintro e w10 ⟨gk, A10, c10, B10, d10, rk, who10, rfl, hk10, ht10, hs10, hr10, hm10, hb10⟩
              have hb10 := hb10 Z6.out
              rw [Z1.out, Z5.out] at hk10
              rw [Z2.out] at hs10 ⊢
              rw [Z3.out] at hm10
              obtain rfl : rk = [] := List.map_eq_nil_iff.1 hm10
              have HT10 := Lib.hid (HT9.out.trans (Turn.below hb10))
              have HJ10 := Lib.hid (HJ9.out.below hb10)
              have HSK := Lib.hid (jseq_any hk10)
              have HSJ := Lib.hid (jseq_any HJ10.out)
              have cx10 := HCX.out w10 (HT10.out.zero (by omega))
              have HSM := Lib.hid (frsame_any x.b x.b A10 x.A c10 x.c w10 hs10.sl.bytes (HSX.out w10 (HT10.out.zero (by omega))).bytes)
              rw [show (x.b == x.b) = true from BEq.rfl] at HSM
              have hrl : ([] : List BX).length = 0 := rfl
              rw [hrl]
              clear hk10 ht10 hs10 hr10 hm10 hb10 HO9 HJ9 HT9 hrl cx9
              go_wp2_with fail
              refine HSK.out.mono ?_
              rintro e wy ⟨rfl, hw⟩
              have hw := hw.symm
              subst hw
              go_wp2_with fail
              refine HSJ.out.mono ?_
              rintro e wy ⟨rfl, hw⟩
              have hw := hw.symm
              subst hw
              go_wp2_with fail
              refine HSM.out.mono ?_
              rintro e w11 ⟨rfl, hb11⟩
              have HT11 := Lib.hid (HT10.out.trans (Turn.below hb11))
              have HJ11 := Lib.hid (HJ10.out.below hb11)
              clear hb11 HSM HSK HSJ HT10 HJ10
              go_wp2_with fail
              go_roundw
              case rel => exact ⟨i + 1, x.b, a', b', _, by omega, by go_num, F1.out, F2.out, HJ11.out.mono (by have := HNN.out; omega), HT11.out⟩
              case measure => simp [intOf]; omega
            · obtain rfl : i = l0.length := by omega
              have HK := Lib.hid (jknown_any wr)
              have HZ := Lib.hid (HT.out.zero (by omega))
              clear HS HL HJ HT
              go_wp2_with fail
              refine HK.out.mono ?_
              rintro e w12 ⟨rfl, hb12⟩
              go_wp2_with fail
              go_ret
              exact ⟨rfl, HZ.out.trans (hb12.mono HZ.out.size)⟩
        · have q1 : ((800 : Int) < (U : Int)) = True := eq_true (by omega)
          have HK := Lib.hid (jknown_any w)
          go_wp2_with fail
          refine HK.out.mono ?_
          rintro e w1 ⟨rfl, hb⟩
          go_wp2_with fail
          go_ret
          exact ⟨rfl, hb⟩
  · have q0 : ((20 : Int) < (l0.length : Int)) = True := eq_true (by omega)
    clear h0 n0
    go_enter Try.func5, Try.ntmps5
    go_wp2_with fail
    go_loop [3, 4] (fun s y => ∃ (i : Nat) (z : Int), i ≤ l0.length ∧ s = .int .i64 z ∧ y = .int .i64 i) (fun _ y => l0.length - (intOf y).toNat)
    case atStart => exact ⟨0, 0, Nat.zero_le _, rfl, rfl⟩
    case round =>
      obtain ⟨i, z, hi, rfl, rfl⟩ := hrel
      by_cases k1 : i < l0.length
      · obtain ⟨g, o, x, rfl, hx, hW⟩ := R0.out i k1
        obtain ⟨hc, _⟩ := hW w (Below.refl _ _)
        have k2 : (i : Int) < (l0.length : Int) := by omega
        have k3 : (i : Int) < (c0 : Int) := by omega
        clear hW hx
        go_wp2_with fail
        go_round
        case rel => exact ⟨i + 1, _, by omega, rfl, by go_num⟩
        case measure => simp [intOf]; omega
      · obtain rfl : i = l0.length := by omega
        have HK := Lib.hid (jknown_any w)
        by_cases hz : z > 800
        · have hz1 : decide (z > 800) = true := decide_eq_true hz
          go_wp2_with fail
          refine HK.out.mono ?_
          rintro e w1 ⟨rfl, hb⟩
          go_wp2_with fail
          go_ret
          exact ⟨rfl, hb⟩
        · have hz1 : decide (z > 800) = false := decide_eq_false hz
          go_wp2_with fail
          refine HK.out.mono ?_
          rintro e w1 ⟨rfl, hb⟩
          go_wp2_with fail
          go_ret
          exact ⟨rfl, hb⟩
end Go.Proofs.Ytojkifcclgecoaa
