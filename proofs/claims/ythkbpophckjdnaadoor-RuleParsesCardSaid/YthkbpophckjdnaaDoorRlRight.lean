/-
  The contract of rule.Right.
-/
import Derived.Test.YthkbpophckjdnaaDoorRlAll
import Derived.Deep.Cut
namespace Go.Proofs.YthkbpophckjdnaaDoor
open Go Go.RowKit Go.Shelf Go.Proofs
attribute [local go_sem] Oper.semAt_some

theorem oneLine_any (s : ByteArray) (w : World) : Calls Tryd.prog 50 #[.string s] w fun e w' => e = .returned (.bool (!feedsL s.data.toList)) ∧ w' = w := by
  have hr : (!decide (0 ≤ Lib.indexByte s.data.toList 10)) = !feedsL s.data.toList := by
    have h := indexByte_neg 10 s.data.toList
    unfold feedsL
    cases e : s.data.toList.contains 10 with
    | true =>
      rw [e] at h
      have : ¬ Lib.indexByte s.data.toList 10 < 0 := fun x => by have := h.1 x; cases this
      rw [decide_eq_true (by omega)]
    | false =>
      have := h.2 e
      rw [decide_eq_false (by omega)]
  rw [← hr]
  clear hr
  have HC := Lib.hid (Tryd.strings_Contains_one s 10 w)
  obtain ⟨z, hz⟩ : ∃ z, decide (0 ≤ Lib.indexByte s.data.toList 10) = z := ⟨_, rfl⟩
  rw [hz] at HC ⊢
  go_enter Tryd.func50, Tryd.ntmps50
  go_wp2_with fail
  refine HC.out.mono ?_
  rintro e w' ⟨rfl, rfl⟩
  go_wp2_with fail
  go_ret
  exact ⟨rfl, rfl⟩
/-- Two texts in a new row. -/
theorem two_at (W : World) (a b : ByteArray) : RowA (W.alloc (.cells #[.string a, .string b] 9)) W.heap.size 0 [a, b] := fun i x hx => by
  have hn := heap_alloc_new W (.cells #[.string a, .string b] 9)
  match i, hx with
  | 0, hx => cases hx; exact cell_of_row _ _ 0 _ _ _ hn
  | 1, hx => cases hx; exact cell_of_row _ _ 1 _ _ _ hn
  | i + 2, hx => simp at hx
/-- all of two texts in a new row. -/
theorem all_two (g : Nat) (p : ByteArray → Bool) (a b : ByteArray) (w : World) (eg : ∀ args w, (callFunc g args).run Tryd.prog w = .ok (.enter g args) w)
    (hp : ∀ (W : World) (x : ByteArray), (x = a ∨ x = b) → Below w.heap.size w W → Calls Tryd.prog g #[.string x] W fun e w' => e = .returned (.bool (p x)) ∧ Below W.heap.size W w') :
    Calls Tryd.prog 48 #[.func (.func g) #[] #[], .slice (some ⟨w.heap.size, 0, none⟩) 2 2] (w.alloc (.cells #[.string a, .string b] 9)) fun e w' => e = .returned (.bool (p a && p b)) ∧ Below w.heap.size w w' := by
  have hb : Below w.heap.size w (w.alloc (.cells #[.string a, .string b] 9)) := (Below.refl _ w).alloc (Nat.le_refl _) _
  have h := all_any g p [a, b] (some ⟨w.heap.size, 0, none⟩) 2 (w.alloc (.cells #[.string a, .string b] 9)) eg
    (fun W x hx hW => hp W x (by simpa using hx) (hb.trans (hW.mono hb.size))) (by unfold maxLen; show (2 : Nat) ≤ _; decide) (fun _ => ⟨_, 0, rfl, two_at w a b⟩)
  refine h.mono ?_
  rintro e w' ⟨rfl, hb'⟩
  exact ⟨by simp, hb.trans (hb'.mono hb.size)⟩
theorem rightU_k (r : Ru) : rightU r = ((globB r.g && (decide (r.o.length ≤ 100) && decide (r.n.length ≤ 100))) && (if r.k = 1 then tokenL r.o else if r.k = 2 then !feedsL r.o && !feedsL r.n else if r.k = 3 then r.n.isEmpty && !feedsL r.o else if r.k = 4 then rightB r.o && rightB r.n else if r.k = 5 then r.o.isEmpty && r.n.isEmpty else false)) := rfl

set_option maxRecDepth 100000 in
set_option maxHeartbeats 4000000 in
theorem right_rule (x : RX) (w : World) (hg : x.g.size ≤ maxLen) (ho : x.o.size ≤ maxLen) (hn : x.n.size ≤ maxLen) (hm : MaxOk w) :
    Calls Tryd.prog 24 #[.agg #[.int .i64 x.k, .string x.g, .string x.o, .string x.n]] w fun e w' => e = .returned (.bool (rightU x.ru)) ∧ Below w.heap.size w w' := by
  obtain ⟨k, g, o, n⟩ := x
  simp only at hg ho hn
  have ES := enters_of (P := Tryd.prog) Tryd.func49 (by kernel_rfl) rfl
  have EO := enters_of (P := Tryd.prog) Tryd.func50 (by kernel_rfl) rfl
  have ER := enters_of (P := Tryd.prog) Tryd.func51 (by kernel_rfl) rfl
  have EE := enters_of (P := Tryd.prog) Tryd.func52 (by kernel_rfl) rfl
  obtain ⟨W1, hW1⟩ : ∃ W1, w.alloc (.cells #[.int .i64 k, .string g, .string o, .string n] 35) = W1 := ⟨_, rfl⟩
  obtain ⟨B, hB⟩ : ∃ B, w.heap.size = B := ⟨_, rfl⟩
  have n1 : W1.heap[B]? = some (.cells #[.int .i64 k, .string g, .string o, .string n] 35 (0, 0)) := by
    have := heap_alloc_new w (.cells #[.int .i64 k, .string g, .string o, .string n] 35)
    rw [hW1, hB] at this; exact this
  have b1 : Below B w W1 := by rw [← hW1]; exact (Below.refl B w).alloc (by omega) _
  have s1 : W1.heap.size = B + 1 := by rw [← hW1, World.size_alloc, hB]
  have hm1 : MaxOk W1 := hm.belowN b1 (by omega)
  have HG := Lib.hid (glob_any g W1 hg hm1)
  have HALL := Lib.hid (fun (F : Nat) (p : ByteArray → Bool) (W : World) => all_two F p o n W)
  have HSH := Lib.hid (fun (x : ByteArray) (hx : x = o ∨ x = n) (W : World) => short_any x W (by rcases hx with rfl | rfl <;> assumption))
  have HPR := Lib.hid (fun (x : ByteArray) (hx : x = o ∨ x = n) (W : World) (h : MaxOk W) => right_any x W (by rcases hx with rfl | rfl <;> assumption) h)
  have N1 := Lib.hid n1
  have B1 := Lib.hid b1
  have HW1 := Lib.hid hW1
  have S1 := Lib.hid s1
  have HM1 := Lib.hid hm1
  have ES := Lib.hid ES
  have EO := Lib.hid EO
  have ER := Lib.hid ER
  have EE := Lib.hid EE
  have HB := Lib.hid hB
  have HON := Lib.hid ho
  clear n1 b1 hW1 s1 hm1 hm hg hn ho
  obtain ⟨gb, hgb⟩ : ∃ gb, globB g.data.toList = gb := ⟨_, rfl⟩
  obtain ⟨sh, hsh⟩ : ∃ sh, (decide (o.data.toList.length ≤ 100) && decide (n.data.toList.length ≤ 100)) = sh := ⟨_, rfl⟩
  have hru := rightU_k (RX.ru ⟨k, g, o, n⟩)
  unfold RX.ru at hru ⊢
  simp only at hru ⊢
  rw [hgb, hsh] at hru
  obtain ⟨Z, hZ⟩ : ∃ Z, (if k = 1 then tokenL o.data.toList else if k = 2 then !feedsL o.data.toList && !feedsL n.data.toList else if k = 3 then n.data.toList.isEmpty && !feedsL o.data.toList else if k = 4 then rightB o.data.toList && rightB n.data.toList else if k = 5 then o.data.toList.isEmpty && n.data.toList.isEmpty else false) = Z := ⟨_, rfl⟩
  rw [hZ] at hru
  have HZZ := Lib.hid hZ
  clear hZ
  rw [hgb] at HG
  have HSHE := Lib.hid hsh
  rw [hru]
  clear hgb hsh hru
  have c0 := cell_of_row _ B 0 _ _ _ N1.out
  have c1 := cell_of_row _ B 1 _ _ _ N1.out
  have c2 := cell_of_row _ B 2 _ _ _ N1.out
  have c3 := cell_of_row _ B 3 _ _ _ N1.out
  simp only [List.getElem?_toArray, List.getElem?_cons_zero, List.getElem?_cons_succ] at c0 c1 c2 c3
  have C0 := Lib.hid c0
  have C1 := Lib.hid c1
  have C2 := Lib.hid c2
  have C3 := Lib.hid c3
  clear c0 c1 c2 c3
  go_enter Tryd.func24, Tryd.ntmps24
  go_upto_region 1 with fail
  rw [HW1.out]
  clear HW1 hB
  have c1 := C1.out
  cases gb with
  | false =>
    go_wp2_with fail
    refine HG.out.mono ?_
    rintro e w2 ⟨rfl, hb2⟩
    have hB2 := B1.out.trans (hb2.mono (by have := S1.out; omega))
    go_wp2_with fail
    go_ret
    exact ⟨by simp, by rw [HB.out]; exact hB2⟩
  | true =>
    go_wp2_with fail
    refine HG.out.mono ?_
    rintro e w2 ⟨rfl, hb2⟩
    have hB2 := B1.out.trans (hb2.mono (by have := S1.out; omega))
    have hs2 : B + 1 ≤ w2.heap.size := by have := hb2.size; have := S1.out; omega
    have d2 := (hb2.cell (p := ⟨B, 2, none⟩) (by have := S1.out; show B < _; omega)).trans C2.out
    have d3 := (hb2.cell (p := ⟨B, 3, none⟩) (by have := S1.out; show B < _; omega)).trans C3.out
    have d0 := (hb2.cell (p := ⟨B, 0, none⟩) (by have := S1.out; show B < _; omega)).trans C0.out
    have HA := HALL.out 49 (fun x => decide (x.data.toList.length ≤ 100)) w2 ES.out (fun W x hx _ => (HSH.out x hx W).mono fun e w' ⟨h1, h2⟩ => ⟨h1, by rw [h2]; exact Below.refl _ _⟩)
    rw [HSHE.out] at HA
    have HM2 := Lib.hid (HM1.out.belowN hb2 (Nat.le_refl _))
    have HA2 := Lib.hid HA
    clear HA c1 HG
    have D0 := Lib.hid d0
    have D2 := Lib.hid d2
    have D3 := Lib.hid d3
    have HB2 := Lib.hid hB2
    clear hb2 hB2 d0
    cases sh with
    | false =>
      go_wp2_with fail
      refine HA2.out.mono ?_
      rintro e w3 ⟨rfl, hb3⟩
      go_wp2_with fail
      go_ret
      exact ⟨by simp, by rw [HB.out]; exact HB2.out.trans (hb3.mono (by omega))⟩
    | true =>
      go_wp2_with fail
      refine HA2.out.mono ?_
      rintro e w3 ⟨rfl, hb3⟩
      have hB3 := HB2.out.trans (hb3.mono (by omega))
      have hs3 : B + 1 ≤ w3.heap.size := by have := hb3.size; omega
      have e0 := (hb3.cell (p := ⟨B, 0, none⟩) (by show B < _; omega)).trans D0.out
      have e2 := (hb3.cell (p := ⟨B, 2, none⟩) (by show B < _; omega)).trans D2.out
      have e3 := (hb3.cell (p := ⟨B, 3, none⟩) (by show B < _; omega)).trans D3.out
      have HM3 := Lib.hid (HM2.out.belowN hb3 (Nat.le_refl _))
      have HB3 := Lib.hid hB3
      clear d2 d3 D0 D2 D3 hb3 hB3
      by_cases k1 : k = 1
      · subst k1
        have HT := Lib.hid (token_any o w3 HON.out)
        go_wp2_with fail
        refine HT.out.mono ?_
        rintro e w4 ⟨rfl, hb4⟩
        go_wp2_with fail
        go_ret
        exact ⟨ret_bool (by rw [← HZZ.out, if_pos trivial]; rfl), by rw [HB.out]; exact HB3.out.trans (hb4.mono (by omega))⟩
      have q1 : (k == 1) = false := by simpa using k1
      by_cases k3 : k = 3
      · subst k3
        cases hne : n.toList.isEmpty with
        | false =>
          have hz : n.data.toList.isEmpty = false := toList_cons hne
          have HZ := Lib.hid hz
          clear hz
          go_wp2_with fail
          go_ret
          exact ⟨ret_bool (by rw [← HZZ.out, if_neg (by decide), if_neg (by decide), if_pos trivial, HZ.out]; rfl), by rw [HB.out]; exact HB3.out⟩
        | true =>
          have hz : n.data.toList = [] := toList_nil hne
          have HZ := Lib.hid hz
          have HO := Lib.hid (HALL.out 50 (fun x => !feedsL x.data.toList) w3 EO.out (fun W x _ _ => (oneLine_any x W).mono fun e w' ⟨h1, h2⟩ => ⟨h1, by rw [h2]; exact Below.refl _ _⟩))
          clear hz
          go_wp2_with fail
          refine HO.out.mono ?_
          rintro e w4 ⟨rfl, hb4⟩
          go_wp2_with fail
          go_ret
          exact ⟨ret_bool (by rw [← HZZ.out, if_neg (by decide), if_neg (by decide), if_pos trivial, HZ.out]; simp [feedsL]), by rw [HB.out]; exact HB3.out.trans (hb4.mono (by omega))⟩
      have q3 : (k == 3) = false := by simpa using k3
      by_cases k2 : k = 2
      · subst k2
        have HO := Lib.hid (HALL.out 50 (fun x => !feedsL x.data.toList) w3 EO.out (fun W x _ _ => (oneLine_any x W).mono fun e w' ⟨h1, h2⟩ => ⟨h1, by rw [h2]; exact Below.refl _ _⟩))
        go_wp2_with fail
        refine HO.out.mono ?_
        rintro e w4 ⟨rfl, hb4⟩
        go_wp2_with fail
        go_ret
        exact ⟨ret_bool (by rw [← HZZ.out, if_neg (by decide), if_pos trivial]; rfl), by rw [HB.out]; exact HB3.out.trans (hb4.mono (by omega))⟩
      have q2 : (k == 2) = false := by simpa using k2
      by_cases k4 : k = 4
      · subst k4
        have HO := Lib.hid (HALL.out 51 (fun x => rightB x.data.toList) w3 ER.out (fun W x hx hW => HPR.out x hx W (HM3.out.belowN hW (Nat.le_refl _))))
        go_wp2_with fail
        refine HO.out.mono ?_
        rintro e w4 ⟨rfl, hb4⟩
        go_wp2_with fail
        go_ret
        exact ⟨ret_bool (by rw [← HZZ.out, if_neg (by decide), if_neg (by decide), if_neg (by decide), if_pos trivial]; rfl), by rw [HB.out]; exact HB3.out.trans (hb4.mono (by omega))⟩
      have q4 : (k == 4) = false := by simpa using k4
      by_cases k5 : k = 5
      · subst k5
        have HO := Lib.hid (HALL.out 52 (fun x => x.data.toList.isEmpty) w3 EE.out (fun W x _ _ => (empty_any x W).mono fun e w' ⟨h1, h2⟩ => ⟨h1, by rw [h2]; exact Below.refl _ _⟩))
        go_wp2_with fail
        refine HO.out.mono ?_
        rintro e w4 ⟨rfl, hb4⟩
        go_wp2_with fail
        go_ret
        exact ⟨ret_bool (by rw [← HZZ.out, if_neg (by decide), if_neg (by decide), if_neg (by decide), if_neg (by decide), if_pos trivial]; simp), by rw [HB.out]; exact HB3.out.trans (hb4.mono (by omega))⟩
      have q5 : (k == 5) = false := by simpa using k5
      have KK : Hid (Z = false) := by
        unfold Hid
        rw [← HZZ.out, if_neg k1, if_neg k2, if_neg k3, if_neg k4, if_neg k5]
      clear k1 k2 k3 k4 k5
      go_wp2_with fail
      go_ret
      exact ⟨ret_bool (by rw [KK.out]; rfl), by rw [HB.out]; exact HB3.out⟩
end Go.Proofs.YthkbpophckjdnaaDoor
