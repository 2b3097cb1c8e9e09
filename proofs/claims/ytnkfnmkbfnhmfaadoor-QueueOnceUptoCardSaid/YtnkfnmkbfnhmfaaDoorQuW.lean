/-
  Whether a request was taken ever. · The contract of the queue's took.
-/
import Derived.Test.YtnkfnmkbfnhmfaaDoorQuSmall
namespace Go.Proofs.YtnkfnmkbfnhmfaaDoor
open Go Go.RowKit Go.Shelf Go.Proofs Go.ChangeMaps Go.Maps Go.WideMaps
attribute [local go_sem] Oper.semAt_some

def lookA (L : List AX) (id : Int) : AX := (ansOf L id).getD noA
def hasA (L : List AX) (id : Int) : Bool := (ansOf L id).isSome
theorem ansD_at : ∀ (L : List AX) (id : Int), (ansD L).atKey (.int .i64 id) noA.d = (lookA L id).d ∧ Maps.has (ansD L) (.int .i64 id) = hasA L id
  | [], id => ⟨rfl, by simp [ansD, Maps.has, hasA, ansOf]⟩
  | x :: L, id => by
    obtain ⟨h1, h2⟩ := ansD_at L id
    have hkx : WideAt.IsKeyLit (.int .i64 x.id) := by simp [WideAt.IsKeyLit]
    by_cases e : x.id = id
    · subst e
      have e1 : ansOf (x :: L) x.id = some x := by unfold ansOf; simp
      unfold lookA hasA
      rw [e1]
      exact ⟨Maps.atKey_put_same (ansD_isMap L) hkx _ _, Maps.has_put_same (ansD_isMap L) hkx _⟩
    · have e1 : ansOf (x :: L) id = ansOf L id := by unfold ansOf; rw [List.find?_cons, show (x.id == id) = false from by simpa using e]
      unfold lookA hasA
      rw [e1]
      have hne : (Lit.int .i64 id) ≠ (.int .i64 x.id) := fun h => e (by injection h with _ h; exact h.symm)
      exact ⟨(Maps.atKey_put_other hne _ _).trans h1, (Maps.has_put_other hne _).trans h2⟩
theorem answer_zero (w : World) : (zeroValue 36).run Tryd.prog w = .ok noA.v w := by kernel_rfl
/-- What the look-up of an answer gives. -/
theorem ans_look {w : World} {ab n : Nat} {L : List AX} (h : w.ownsMap Tryd.prog 3 ansElem ab n (ansD L)) (id : Int) (hid : keyOf Tryd.prog 3 (.int .i64 id) = some (.int .i64 id)) :
    (Instr.lookup 77 (.map (some ab)) (.int .i64 id) true).run Tryd.prog w = .ok (.tuple #[(lookA L id).v, .bool (hasA L id)]) w := by
  obtain ⟨v, ps, hrun, hv⟩ := h.look_ok ikeyed Tryd.underlying77 (answer_zero w) (ansElem_mk noA) hid
  obtain ⟨h1, h2⟩ := ansD_at L id
  rw [h1] at hv
  obtain ⟨x, rfl, hx⟩ := ansElem_inv hv
  have e := AX.d_inj (congrArg Prod.fst hx)
  rw [hrun, h2, e]
/-- Requests in a row. -/
def RowQ (w : World) (g o : Nat) (l : List QX) : Prop := ∀ i x, l[i]? = some x → w.cell? ⟨g, o + i * 3, none⟩ = some (.int .i64 x.id) ∧ w.cell? ⟨g, o + i * 3 + 1, none⟩ = some (.int .i64 x.base) ∧ w.cell? ⟨g, o + i * 3 + 2, none⟩ = some (.slice x.A x.l.length x.c)
theorem RowQ.below {w w' : World} {g o : Nat} {l : List QX} (h : RowQ w g o l) (hb : Below w.heap.size w w') : RowQ w' g o l := fun i x hx => by
  obtain ⟨h1, h2, h3⟩ := h i x hx
  have hl : g < w.heap.size := World.block_lt_of_cell? w (a := ⟨g, o + i * 3, none⟩) h1
  exact ⟨(hb.cell (p := ⟨g, o + i * 3, none⟩) hl).trans h1, (hb.cell (p := ⟨g, o + i * 3 + 1, none⟩) hl).trans h2, (hb.cell (p := ⟨g, o + i * 3 + 2, none⟩) hl).trans h3⟩
theorem WaitsAt.slice {base : Nat} {w : World} {v : Value} {R : List QX} (h : WaitsAt base w v R) : ∃ A c, v = .slice A R.length c ∧ (A = none → c = 0) ∧ R.length ≤ c ∧ c ≤ maxLen ∧ (0 < R.length → ∃ g o, A = some ⟨g, o, none⟩ ∧ RowQ w g o R) := by
  rcases h.row.2 with ⟨rfl, h0⟩ | ⟨g, cap, cur, rfl, hbg, hgb, hc, hcm, _, _⟩
  · exact ⟨none, 0, by rw [h0], fun _ => rfl, by omega, Nat.zero_le _, fun h1 => by omega⟩
  · refine ⟨_, _, rfl, fun e => (by cases e), hc, hcm, fun _ => ⟨g, 0, rfl, fun i x hx => ?_⟩⟩
    obtain ⟨a1, a2, a3⟩ := qcells_at R i x hx
    have b1 := World.ownsRow.cells h.row (g := g) rfl _ _ a1
    have b2 := World.ownsRow.cells h.row (g := g) rfl _ _ a2
    have b3 := World.ownsRow.cells h.row (g := g) rfl _ _ a3
    rw [Go.WideShapes.add_plain, Nat.zero_add] at b1 b2 b3
    rw [Nat.zero_add]
    exact ⟨b1, b2, b3⟩
def PredQ (g : Nat) (lb : Array Value) (p : QX → Bool) (l : List QX) (w : World) : Prop :=
  ∀ (W : World) (x : QX), x ∈ l → Below w.heap.size w W → Calls Tryd.prog g (#[x.v] ++ lb) W fun e w' => e = .returned (.bool (p x)) ∧ Below W.heap.size W w'
def idxQ (p : QX → Bool) (l : List QX) : Int := match l.findIdx? p with
  | some i => i
  | none => -1
theorem idxQ_hit {p : QX → Bool} {l : List QX} {k : Nat} {x : QX} (hx : l[k]? = some x) (hp : p x = true) (hn : ∀ j y, j < k → l[j]? = some y → p y = false) : idxQ p l = k := by
  have : l.findIdx? p = some k := by
    rw [List.findIdx?_eq_some_iff_getElem]
    obtain ⟨hk, rfl⟩ := List.getElem?_eq_some_iff.1 hx
    exact ⟨hk, hp, fun j hj => by simpa using hn j _ hj (List.getElem?_eq_getElem (by omega))⟩
  unfold idxQ; rw [this]
theorem idxQ_miss {p : QX → Bool} {l : List QX} (hn : ∀ y ∈ l, p y = false) : idxQ p l = -1 := by
  have : l.findIdx? p = none := by rw [List.findIdx?_eq_none_iff]; exact hn
  unfold idxQ; rw [this]
set_option maxHeartbeats 2000000 in
theorem indexQ_any (g : Nat) (lb : Array Value) (p : QX → Bool) (l : List QX) (A : Option Addr) (c : Nat) (w : World)
    (eg : ∀ args w, (callFunc g args).run Tryd.prog w = .ok (.enter g args) w) (hp : PredQ g lb p l w) (hl : l.length ≤ maxLen) (hr : 0 < l.length → ∃ b o, A = some ⟨b, o, none⟩ ∧ RowQ w b o l) :
    Calls Tryd.prog 81 #[.slice A l.length c, .func (.func g) #[] lb] w fun e w' => e = .returned (.int .i64 (idxQ p l)) ∧ Below w.heap.size w w' := by
  unfold maxLen at hl
  have EG := Lib.hid eg; clear eg
  have HP := Lib.hid hp; clear hp
  have HR := Lib.hid hr; clear hr
  go_enter Tryd.func81, Tryd.ntmps81
  go_wp2_with fail
  go_loopw [5, 8] (fun _ s8 wr => ∃ k : Nat, k ≤ l.length ∧ s8 = .int .i64 k ∧ Hid (Below w.heap.size w wr) ∧ Hid (∀ j y, j < k → l[j]? = some y → p y = false)) (fun _ s8 _ => l.length - (intOf s8).toNat)
  case atStart => exact ⟨0, Nat.zero_le _, rfl, Below.refl _ w, fun j y hj => absurd hj (Nat.not_lt_zero _)⟩
  case round =>
    obtain ⟨k, hk, rfl, HB, HN⟩ := hrel
    by_cases hlt : k < l.length
    · obtain ⟨x, hx⟩ : ∃ x, l[k]? = some x := ⟨_, List.getElem?_eq_getElem hlt⟩
      obtain ⟨b, o, hA, hrow⟩ := HR.out (by omega)
      subst hA
      obtain ⟨c1, c2, c3⟩ := (hrow.below HB.out) k x hx
      have hcall := HP.out wr x (List.mem_of_getElem? hx) HB.out
      have HX := Lib.hid hx; clear hx
      have HROW := Lib.hid hrow; clear hrow
      have eg := EG.out
      cases hq : p x with
      | true =>
        rw [hq] at hcall
        have HQ := Lib.hid hq; clear hq
        have HC := Lib.hid hcall; clear hcall
        go_wp2_with (go_at_fn g; refine HC.out.mono ?_; rintro e w' ⟨rfl, hb'⟩)
        go_ret
        exact ⟨by rw [idxQ_hit HX.out HQ.out HN.out]; rfl, HB.out.trans (hb'.mono HB.out.size)⟩
      | false =>
        rw [hq] at hcall
        have HQ := Lib.hid hq; clear hq
        have HC := Lib.hid hcall; clear hcall
        go_wp2_with (go_at_fn g; refine HC.out.mono ?_; rintro e w' ⟨rfl, hb'⟩)
        go_roundw
        case rel =>
          refine ⟨k + 1, by omega, by go_num, HB.out.trans (hb'.mono HB.out.size), fun j y hj hy => ?_⟩
          by_cases e : j = k
          · subst e
            have := HX.out.symm.trans hy
            cases this
            exact HQ.out
          · exact HN.out j y (by omega) hy
        case measure => simp [intOf]; omega
    · go_wp2_with fail
      go_ret
      have hm : idxQ p l = -1 := idxQ_miss fun y hy => by
        obtain ⟨j, hj⟩ := List.mem_iff_getElem?.1 hy
        have := (List.getElem?_eq_some_iff.1 hj).1
        exact HN.out j y (by omega) hj
      exact ⟨by rw [hm]; rfl, HB.out⟩

theorem idxQ_any (p : QX → Bool) (l : List QX) : (0 ≤ idxQ p l ↔ l.any p = true) ∧ -1 ≤ idxQ p l := by
  unfold idxQ
  cases h : l.findIdx? p with
  | none =>
    have : l.any p = false := by
      rw [List.findIdx?_eq_none_iff] at h
      rw [List.any_eq_false]; exact fun x hx => by simpa using h x hx
    rw [this]; simp
  | some i =>
    have : l.any p = true := by
      rw [List.findIdx?_eq_some_iff_getElem] at h
      obtain ⟨hk, h1, _⟩ := h
      exact List.any_eq_true.2 ⟨_, List.getElem_mem hk, h1⟩
    rw [this]; simp
set_option maxHeartbeats 2000000 in
theorem containsQ_any (g : Nat) (lb : Array Value) (p : QX → Bool) (l : List QX) (A : Option Addr) (c : Nat) (w : World)
    (eg : ∀ args w, (callFunc g args).run Tryd.prog w = .ok (.enter g args) w) (hp : PredQ g lb p l w) (hl : l.length ≤ maxLen) (hr : 0 < l.length → ∃ b o, A = some ⟨b, o, none⟩ ∧ RowQ w b o l) :
    Calls Tryd.prog 68 #[.slice A l.length c, .func (.func g) #[] lb] w fun e w' => e = .returned (.bool (l.any p)) ∧ Below w.heap.size w w' := by
  have HC := Lib.hid (indexQ_any g lb p l A c w eg hp hl hr)
  obtain ⟨h1, h2⟩ := idxQ_any p l
  obtain ⟨z, hz⟩ : ∃ z, idxQ p l = z := ⟨_, rfl⟩
  rw [hz] at HC h1 h2
  clear hz eg hp hr
  cases ha : l.any p with
  | true =>
    have hz : 0 ≤ z := h1.2 ha
    clear h1 ha
    go_enter Tryd.func68, Tryd.ntmps68
    go_wp2_with fail
    refine HC.out.mono ?_
    rintro e w1 ⟨rfl, hb1⟩
    go_wp2_with fail
    go_ret
    exact ⟨rfl, hb1⟩
  | false =>
    have hz : z = -1 := by
      have : ¬ 0 ≤ z := fun h => by rw [h1.1 h] at ha; cases ha
      omega
    subst hz
    clear h1 h2 ha
    go_enter Tryd.func68, Tryd.ntmps68
    go_wp2_with fail
    refine HC.out.mono ?_
    rintro e w1 ⟨rfl, hb1⟩
    go_wp2_with fail
    go_ret
    exact ⟨rfl, hb1⟩

/-- Is there one of that ID among them? -/
def waitsQ (R : List QX) (id : Int) : Bool := R.any fun x => decide (x.id = id)
set_option maxHeartbeats 2000000 in
theorem has_any (qb bx : Nat) (id : Int) (R : List QX) (A : Option Addr) (c : Nat) (x y z : Value) (w : World) (h : w.heap[qb]? = some (.cells #[x, .slice A R.length c, y, z] 79 (0, 0))) (hid : w.cell? ⟨bx, 0, none⟩ = some (.int .i64 id)) (hl : R.length ≤ maxLen) (hr : 0 < R.length → ∃ b o, A = some ⟨b, o, none⟩ ∧ RowQ w b o R) :
    Calls Tryd.prog 45 #[.pointer (some ⟨qb, 1, none⟩), .func (.func 46) #[] #[.pointer (some ⟨bx, 0, none⟩)]] w fun e w' => e = .returned (.bool (waitsQ R id)) ∧ Below w.heap.size w w' := by
  have hbx := World.block_lt_of_cell? w (a := ⟨bx, 0, none⟩) hid
  have HC := Lib.hid (containsQ_any 46 #[.pointer (some ⟨bx, 0, none⟩)] (fun x => decide (x.id = id)) R A c w (enters_of (P := Tryd.prog) Tryd.func46 (by kernel_rfl) rfl) (fun W x _ hb => took1_any id bx x W ((hb.cell (p := ⟨bx, 0, none⟩) hbx).trans hid)) hl hr)
  have c1 : w.cell? ⟨qb, 1, none⟩ = some (.slice A R.length c) := cell_of_row w qb 1 _ _ _ h
  clear hr h hid hbx
  go_enter Tryd.func45, Tryd.ntmps45
  go_wp2_with fail
  refine HC.out.mono ?_
  rintro e w1 ⟨rfl, hb1⟩
  go_wp2_with fail
  go_ret
  exact ⟨rfl, hb1⟩
end Go.Proofs.YtnkfnmkbfnhmfaaDoor
namespace Go.Proofs.YtnkfnmkbfnhmfaaDoor
open Go Go.RowKit Go.Shelf Go.Proofs Go.ChangeMaps Go.Maps Go.WideMaps
attribute [local go_sem] Oper.semAt_some

set_option maxRecDepth 100000 in
set_option maxHeartbeats 8000000 in
theorem took_any {base : Nat} {w : World} {qb hb ab room : Nat} {v : Value} {R : List QX} {L : List AX} (h : QueueAt base w qb hb ab room v R L) (id : Int) (hid : keyOf Tryd.prog 3 (.int .i64 id) = some (.int .i64 id)) :
    Calls Tryd.prog 28 #[.pointer (some ⟨qb, 0, none⟩), .int .i64 id] w fun e w' => e = .returned (.bool (hasA L id || waitsQ R id)) ∧ Below w.heap.size w w' := by
  have hmf : ∀ (fn : Fn) (first cap : Array Value) (w : World), (Instr.makeFunc fn first cap).run Tryd.prog w = .ok (.func fn first cap) w := fun _ _ _ _ => rfl
  obtain ⟨A, c, rfl, -, hRc, hcm, hrow⟩ := h.waits.slice
  obtain ⟨bx, hbx⟩ : ∃ b, w.heap.size = b := ⟨_, rfl⟩
  obtain ⟨W1, hW1⟩ : ∃ W, w.alloc (.cells #[.int .i64 id] 3) = W := ⟨_, rfl⟩
  have hb1 : Below w.heap.size w W1 := by rw [← hW1]; exact (Below.refl _ _).alloc (Nat.le_refl _) _
  have hn1 : W1.heap[bx]? = some (.cells #[.int .i64 id] 3 (0, 0)) := by rw [← hW1, ← hbx]; exact heap_alloc_new _ _
  have ci : W1.cell? ⟨bx, 0, none⟩ = some (.int .i64 id) := cell_of_row W1 bx 0 _ _ _ hn1
  have hq1 := h.below hb1
  have c3 : W1.cell? ⟨qb, 3, none⟩ = some (.map (some ab)) := cell_of_row W1 qb 3 _ _ _ hq1.heap
  have hlk := ans_look hq1.ans id hid
  have HQ1 := Lib.hid hq1
  have HB1 := Lib.hid hb1
  have HN1 := Lib.hid hn1
  have HROW := Lib.hid (fun (W : World) (hb : Below w.heap.size w W) (h0 : 0 < R.length) => show ∃ g o, A = some ⟨g, o, none⟩ ∧ RowQ W g o R by obtain ⟨g, o, e, hr⟩ := hrow h0; exact ⟨g, o, e, hr.below hb⟩)
  have HW1 := Lib.hid hW1
  have HBX := Lib.hid hbx
  clear h hb1 hq1 hrow hW1 hbx hn1
  go_enter Tryd.func28, Tryd.ntmps28
  go_upto_region 1 with fail
  rw [HW1.out, HBX.out]
  go_wp2_with fail
  have hbA : Below W1.heap.size W1 (W1.alloc (.cells #[.int .i64 0, .int .i64 0, .int .i64 0, .int .i64 0] 36)).drew := ((Below.refl _ _).alloc (Nat.le_refl _) _).drew
  have ci2 : (W1.alloc (.cells #[.int .i64 0, .int .i64 0, .int .i64 0, .int .i64 0] 36)).drew.cell? ⟨bx, 0, none⟩ = some (.int .i64 id) := (hbA.cell (p := ⟨bx, 0, none⟩) (World.block_lt_of_cell? W1 (a := ⟨bx, 0, none⟩) ci)).trans ci
  have c32 : (W1.alloc (.cells #[.int .i64 0, .int .i64 0, .int .i64 0, .int .i64 0] 36)).drew.cell? ⟨qb, 3, none⟩ = some (.map (some ab)) := (hbA.cell (p := ⟨qb, 3, none⟩) (World.block_lt_of_cell? W1 (a := ⟨qb, 3, none⟩) c3)).trans c3
  have hlk2 := ans_look (HQ1.out.below hbA).ans id hid
  have hlk3 := ans_look (HQ1.out.below (Below.refl W1.heap.size W1).drew).ans id hid
  obtain ⟨xa, hxa⟩ : ∃ x, lookA L id = x := ⟨_, rfl⟩
  rw [hxa] at hlk2 hlk3
  obtain ⟨x0, x1, x2, x3⟩ := xa
  unfold AX.v at hlk2 hlk3
  obtain ⟨hs, hhs⟩ : ∃ b, hasA L id = b := ⟨_, rfl⟩
  rw [hhs] at hlk2 hlk3
  have hnA : (W1.alloc (.cells #[.int .i64 0, .int .i64 0, .int .i64 0, .int .i64 0] 36)).drew.heap[W1.heap.size]? = some (.cells #[.int .i64 0, .int .i64 0, .int .i64 0, .int .i64 0] 36 (0, 0)) := heap_alloc_new _ _
  have d0 := cell_of_row _ _ 0 _ _ _ hnA
  have d1 := cell_of_row _ _ 1 _ _ _ hnA
  have d2 := cell_of_row _ _ 2 _ _ _ hnA
  have d3 := cell_of_row _ _ 3 _ _ _ hnA
  have f0 := frozen_of_row _ _ 0 _ _ hnA
  have f1 := frozen_of_row _ _ 1 _ _ hnA
  have f2 := frozen_of_row _ _ 2 _ _ hnA
  have f3 := frozen_of_row _ _ 3 _ _ hnA
  simp only [List.getElem?_toArray, List.getElem?_cons_zero, List.getElem?_cons_succ] at d0 d1 d2 d3
  have HHS := Lib.hid hhs
  clear hbA hlk hnA hxa hhs

  go_region
  all_goals
    have hb2 : Below w.heap.size w (W1.alloc (.cells #[.int .i64 x0, .int .i64 x1, .int .i64 x2, .int .i64 x3] 36)).drew := (HB1.out.alloc HB1.out.size _).drew
    have hbk : Below W1.heap.size W1 (W1.alloc (.cells #[.int .i64 x0, .int .i64 x1, .int .i64 x2, .int .i64 x3] 36)).drew := ((Below.refl _ _).alloc (Nat.le_refl _) _).drew
    obtain ⟨W2, hW2⟩ : ∃ W, (W1.alloc (.cells #[.int .i64 x0, .int .i64 x1, .int .i64 x2, .int .i64 x3] 36)).drew = W := ⟨_, rfl⟩
    rw [hW2] at hb2 hbk ⊢
    have ci3 := (hbk.cell (p := ⟨bx, 0, none⟩) (World.block_lt_of_cell? W1 (a := ⟨bx, 0, none⟩) ci)).trans ci
    have HAS := Lib.hid (has_any qb bx id R A c _ _ _ W2 (HQ1.out.below hbk).heap ci3 (by unfold maxLen at hcm ⊢; omega) (HROW.out W2 hb2))
    have HB2 := Lib.hid hb2
    have HHB := Lib.hid HHS.out
    clear hb2 hbk hW2 ci3 ci ci2 c32 hlk2 hlk3 d0 d1 d2 d3 f0 f1 f2 f3
    cases hs with
    | true =>
      go_wp2_with fail
      go_ret
      exact ⟨by rw [HHB.out, Bool.true_or]; rfl, HB2.out⟩
    | false =>
      go_wp2_with fail
      refine HAS.out.mono ?_
      rintro e w3 ⟨rfl, hb3⟩
      go_wp2_with fail
      go_ret
      exact ⟨by rw [HHB.out, Bool.false_or]; rfl, HB2.out.trans (hb3.mono HB2.out.size)⟩
end Go.Proofs.YtnkfnmkbfnhmfaaDoor
