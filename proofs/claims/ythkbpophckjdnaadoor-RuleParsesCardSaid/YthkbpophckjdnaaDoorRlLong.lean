/-
  How long rules are, and whether two rows of rules are the same: the document's own.
-/
import Derived.Test.YthkbpophckjdnaaDoorRlKnown
import Derived.BigQuiet
import Derived.Laws.StructEq
namespace Go.Proofs.YthkbpophckjdnaaDoor
open Go Go.RowKit Go.Shelf Go.Proofs
attribute [local go_sem] Oper.semAt_some

theorem longU_snoc {l : List Ru} {k : Nat} {r : Ru} (h : l[k]? = some r) : longU (l.take (k + 1)) = longU (l.take k) + (1 + r.g.length + r.o.length + r.n.length) := by
  rw [List.take_add_one, h]
  unfold longU
  simp [List.sum_append]
theorem longU_le {m : Nat} : ∀ (l : List Ru), (∀ r ∈ l, r.g.length ≤ m ∧ r.o.length ≤ m ∧ r.n.length ≤ m) → longU l ≤ l.length * (1 + 3 * m)
  | [], _ => Nat.zero_le _
  | r :: l, h => by
    have ih := longU_le l fun x hx => h x (by simp [hx])
    have h1 := h r (by simp)
    unfold longU at ih ⊢
    rw [List.map_cons, List.sum_cons, List.length_cons, Nat.add_mul, Nat.one_mul]
    omega
theorem rusX_take (l : List RX) (k : Nat) : (rusX l).take k = rusX (l.take k) := by unfold rusX; rw [List.map_take]
/-- Its texts are no longer than what a call can be handed. -/
structure RX.Tiny (x : RX) : Prop where
  g : x.g.size ≤ 281474976710656
  o : x.o.size ≤ 281474976710656
  n : x.n.size ≤ 281474976710656
theorem RX.Tiny.fits {x : RX} (h : x.Tiny) : x.Fits := by
  have := h.g; have := h.o; have := h.n
  constructor <;> unfold maxLen <;> omega
theorem tiny_len {x : RX} (h : x.Tiny) : x.ru.g.length ≤ 281474976710656 ∧ x.ru.o.length ≤ 281474976710656 ∧ x.ru.n.length ≤ 281474976710656 := by
  show x.g.data.toList.length ≤ _ ∧ x.o.data.toList.length ≤ _ ∧ x.n.data.toList.length ≤ _
  rw [rl_size, rl_size, rl_size]; exact ⟨h.g, h.o, h.n⟩

theorem rl_drewN {w w' : World} {B : Nat} (h : Below B w w') (q : Nat) : Below B w (w'.drewN q) := ⟨h.os, h.tape, h.output, h.size, h.block⟩

set_option maxRecDepth 100000 in
set_option maxHeartbeats 8000000 in
theorem rlong_any (l : List RX) (A : Option Addr) (c : Nat) (w : World) (h : RulesAt w A c l) (hl : l.length ≤ 60) (hs : ∀ x ∈ l, x.Tiny) :
    Calls Tryd.prog 21 #[.slice A l.length c] w fun e w' => e = .returned (.int .i64 (longU (rusX l))) ∧ Below w.heap.size w w' := by
  have HT := Lib.hid h; clear h
  have HS := Lib.hid hs; clear hs
  go_enter Tryd.func21, Tryd.ntmps21
  go_wp2_with fail
  go_loopw [3, 4] (fun s i wr => ∃ (k : Nat), k ≤ l.length ∧ s = .int .i64 (longU ((rusX l).take k)) ∧ i = .int .i64 k ∧ Below w.heap.size w wr) (fun _ i _ => l.length - (intOf i).toNat)
  case atStart => exact ⟨0, Nat.zero_le _, rfl, rfl, Below.refl _ _⟩
  case round =>
    obtain ⟨k, hk, rfl, rfl, hbr⟩ := hrel
    by_cases h1 : k < l.length
    · obtain ⟨x, hx⟩ : ∃ x, l[k]? = some x := ⟨_, List.getElem?_eq_getElem h1⟩
      obtain ⟨b, o, hA, hr⟩ := HT.out.row (by omega)
      subst hA
      obtain ⟨c0, c1, c2, c3⟩ := (hr.below hbr) k x hx
      clear c0
      have hsn := longU_snoc (l := rusX l) (k := k) (r := x.ru) (by rw [rusX_getElem?, hx]; rfl)
      have hle := longU_le (m := 281474976710656) ((rusX l).take k) fun r hr => by
        obtain ⟨y, hy, rfl⟩ := List.mem_map.1 (List.mem_of_mem_take hr)
        exact tiny_len (HS.out y hy)
      have hlt : ((rusX l).take k).length ≤ 60 := by rw [List.length_take, rusX_length]; omega
      obtain ⟨x1, x2, x3⟩ := HS.out x (List.mem_of_getElem? hx)
      have eg : x.ru.g.length = x.g.size := rl_size _
      have eo : x.ru.o.length = x.o.size := rl_size _
      have en : x.ru.n.length = x.n.size := rl_size _
      rw [eg, eo, en] at hsn
      have k1 : (k : Int) < (l.length : Int) := by omega
      have hn : longU ((rusX l).take k) ≤ 60 * (1 + 3 * 281474976710656) := Nat.le_trans hle (Nat.mul_le_mul_right _ hlt)
      clear eg eo en hle hlt
      generalize longU ((rusX l).take k) = n at *
      have e1 : IntKind.i64.wrap ((n : Int) + 1) = (n : Int) + 1 := IntWalk.i64_in _ (by omega)
      have e2 : IntKind.i64.wrap ((n : Int) + 1 + (x.g.size : Int)) = (n : Int) + 1 + (x.g.size : Int) := IntWalk.i64_in _ (by omega)
      have e3 : IntKind.i64.wrap ((n : Int) + 1 + (x.g.size : Int) + (x.o.size : Int)) = (n : Int) + 1 + (x.g.size : Int) + (x.o.size : Int) := IntWalk.i64_in _ (by omega)
      have e4 : IntKind.i64.wrap ((n : Int) + 1 + (x.g.size : Int) + (x.o.size : Int) + (x.n.size : Int)) = (n : Int) + 1 + (x.g.size : Int) + (x.o.size : Int) + (x.n.size : Int) := IntWalk.i64_in _ (by omega)
      have HSN := Lib.hid hsn
      clear hr hsn hx x1 x2 x3
      go_wp2_with fail
      go_quiet (fail)
      go_wp2_with fail
      go_roundw
      case rel => exact ⟨k + 1, by omega, by rw [HSN.out]; go_num, by go_num, rl_drewN hbr _⟩
      case measure => simp [intOf]; omega
    · obtain rfl : k = l.length := by omega
      have hln : longU ((rusX l).take l.length) = longU (rusX l) := by rw [← rusX_length l, List.take_length]
      have HLN := Lib.hid hln; clear hln
      go_wp2_with fail
      go_ret
      exact ⟨by rw [← HLN.out]; rfl, hbr⟩

theorem run_neq_rule (x y : RX) (w : World) : (binOp .neq 35 (.agg #[.int .i64 x.k, .string x.g, .string x.o, .string x.n]) (.agg #[.int .i64 y.k, .string y.g, .string y.o, .string y.n])).run Tryd.prog w = .ok (.bool (!(x.k == y.k && (x.g.toList == y.g.toList && (x.o.toList == y.o.toList && x.n.toList == y.n.toList))))) w := by
  rw [run_neq_struct, run_equalIn_struct _ _ _ _ _ (by kernel_rfl) (by kernel_rfl)]
  have HS : ∀ (a b : ByteArray) (W : World), (Op.equalIn 9999 9 (.string a) (.string b)).run Tryd.prog W = .ok (a.toList == b.toList) W := fun a b W => run_equalIn_string W _ _ a b Tryd.underlying9
  have HI : ∀ (a b : Int) (W : World), (Op.equalIn 9999 3 (.int .i64 a) (.int .i64 b)).run Tryd.prog W = .ok (a == b) W := fun a b W => run_equalIn_int W _ _ _ _ a b Tryd.underlying3
  have AS : ∀ W : World, (isAgg 9).run Tryd.prog W = .ok false W := fun W => Tryd.isAgg9 W
  have AI : ∀ W : World, (isAgg 3).run Tryd.prog W = .ok false W := fun W => Tryd.isAgg3 W
  simp only [Program.fieldsOf, Tryd.underlying35, Op.eqFields, part, ne_eq, String.reduceEq, not_false_eq_true, if_true]
  simp [HS, HI, AS, AI]
  by_cases h1 : x.k = y.k <;> by_cases h2 : x.g.toList = y.g.toList <;> by_cases h3 : x.o.toList = y.o.toList <;> by_cases h4 : x.n.toList = y.n.toList <;> simp [h1, h2, h3, h4]

theorem beq_true_iff {a b : ByteArray} : (a.toList == b.toList) = true ↔ a = b := by
  rw [ByteArray.toList_eq, ByteArray.toList_eq, beq_iff_eq]
  constructor
  · intro h
    cases a; cases b
    congr 1
    exact Array.ext' h
  · intro h; rw [h]
def sameX (x y : RX) : Bool := x.k == y.k && (x.g.toList == y.g.toList && (x.o.toList == y.o.toList && x.n.toList == y.n.toList))
theorem sameX_iff (x y : RX) : sameX x y = true ↔ x = y := by
  unfold sameX
  rw [Bool.and_eq_true, Bool.and_eq_true, Bool.and_eq_true, beq_true_iff, beq_true_iff, beq_true_iff, beq_iff_eq]
  cases x; cases y
  simp

theorem run_neq_rules (x y : RX) (r : Bool) (hr : sameX x y = r) (w : World) : (binOp .neq 35 (.agg #[.int .i64 x.k, .string x.g, .string x.o, .string x.n]) (.agg #[.int .i64 y.k, .string y.g, .string y.o, .string y.n])).run Tryd.prog w = .ok (.bool (!r)) w := by
  rw [run_neq_rule, ← hr]; rfl

set_option maxRecDepth 100000 in
set_option maxHeartbeats 8000000 in
theorem rsame_any (l m : List RX) (A B : Option Addr) (c d : Nat) (w : World) (r : Bool) (h : RulesAt w A c l) (h2 : RulesAt w B d m) (hr : r = true ↔ rusX l = rusX m) :
    Calls Tryd.prog 16 #[.slice A l.length c, .slice B m.length d] w fun e w' => e = .returned (.bool r) ∧ Below w.heap.size w w' := by
  have hcap : l.length ≤ maxLen := Nat.le_trans h.cap h.capm
  unfold maxLen at hcap
  have HT := Lib.hid h; clear h
  have HU := Lib.hid h2; clear h2
  have HR := Lib.hid hr; clear hr
  by_cases hlm : l.length = m.length
  · have e0 : ((l.length : Int) != (m.length : Int)) = false := by rw [hlm]; simp
    have e1 : ((l.length : Int) = (m.length : Int)) = True := eq_true (by omega)
    have HLM := Lib.hid hlm
    go_enter Tryd.func16, Tryd.ntmps16
    go_wp2_with fail
    clear e0 e1
    go_loopw [5] (fun i wr => ∃ (k : Nat), k ≤ l.length ∧ i = .int .i64 k ∧ Hid (∀ j, j < k → l[j]? = m[j]?) ∧ Below w.heap.size w wr) (fun i _ => l.length - (intOf i).toNat)
    case atStart => exact ⟨0, Nat.zero_le _, rfl, fun j hj => absurd hj (Nat.not_lt_zero _), Below.refl _ _⟩
    case round =>
      obtain ⟨k, hk, rfl, HS, hbr⟩ := hrel
      by_cases h1 : k < l.length
      · obtain ⟨x, hx⟩ : ∃ x, l[k]? = some x := ⟨_, List.getElem?_eq_getElem h1⟩
        obtain ⟨y, hy⟩ : ∃ y, m[k]? = some y := ⟨_, List.getElem?_eq_getElem (by omega)⟩
        obtain ⟨g, o, rfl, hr⟩ := (HT.out.below hbr).row (by omega)
        obtain ⟨g', o', rfl, hr'⟩ := (HU.out.below hbr).row (by omega)
        obtain ⟨c0, c1, c2, c3⟩ := hr k x hx
        obtain ⟨d0, d1, d2, d3⟩ := hr' k y hy
        have k1 : (k : Int) < (l.length : Int) := by omega
        have k2 : (k : Int) < (m.length : Int) := by omega
        have HX := Lib.hid hx
        have HY := Lib.hid hy
        clear hr hr' hx hy
        cases hxy : sameX x y with
        | true =>
          have rn := run_neq_rules x y true hxy
          have HXY := Lib.hid ((sameX_iff x y).1 hxy)
          clear hxy
          go_wp2_with fail
          go_quiet (fail)
          go_wp2_with fail
          go_roundw
          case rel =>
            refine ⟨k + 1, by omega, by go_num, fun j hj => ?_, rl_drewN hbr _⟩
            by_cases hjk : j < k
            · exact HS.out j hjk
            · obtain rfl : j = k := by omega
              rw [HX.out, HY.out, HXY.out]
          case measure => simp [intOf]; omega
        | false =>
          have rn := run_neq_rules x y false hxy
          have hne : ¬ x = y := fun e => by rw [(sameX_iff x y).2 e] at hxy; cases hxy
          have HNE := Lib.hid hne
          clear hxy hne
          go_wp2_with fail
          go_quiet (fail)
          go_wp2_with fail
          go_ret
          refine ⟨?_, rl_drewN hbr _⟩
          have hrf : r = false := by
            cases hrr : r with
            | false => rfl
            | true =>
              have e := rusX_inj (HR.out.1 hrr)
              have hx := HX.out
              rw [e, HY.out] at hx
              exact absurd (Option.some.inj hx).symm HNE.out
          rw [hrf]; rfl
      · obtain rfl : k = l.length := by omega
        have hrt : r = true := HR.out.2 (by
          have : l = m := List.ext_getElem? fun j => by
            by_cases hj : j < l.length
            · exact HS.out j hj
            · rw [List.getElem?_eq_none (by omega), List.getElem?_eq_none (by have := HLM.out; omega)]
          rw [this])
        have HRT := Lib.hid hrt
        clear hrt
        go_wp2_with fail
        go_ret
        exact ⟨by rw [HRT.out]; rfl, hbr⟩
  · have e0 : ((l.length : Int) != (m.length : Int)) = true := by simp; omega
    have hrf : r = false := by
      cases hrr : r with
      | false => rfl
      | true =>
        have e := rusX_inj (HR.out.1 hrr)
        exact absurd (congrArg List.length e) hlm
    subst hrf
    clear hlm
    go_enter Tryd.func16, Tryd.ntmps16
    go_wp2_with fail
    go_ret
    exact ⟨rfl, Below.refl _ _⟩
end Go.Proofs.YthkbpophckjdnaaDoor
