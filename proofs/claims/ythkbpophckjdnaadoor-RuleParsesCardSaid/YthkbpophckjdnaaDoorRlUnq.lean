/-
  The contracts of rule.byteOf, Unquote.
-/
import Derived.Test.YthkbpophckjdnaaDoorRlQuote
import Derived.BigQuiet
import Derived.Deep.QuietTactic
namespace Go.Proofs.YthkbpophckjdnaaDoor
open Go Go.RowKit Go.Shelf Go.Proofs
attribute [local go_sem] Oper.semAt_some

/-- The byte with which a quote begins, and how many bytes stand for it. -/
def stepQ : Bs → UInt8 × Nat
  | a :: b :: c :: _ => if escL a b c then (16 * hexL b + hexL c, 3) else (a, 1)
  | a :: _ => (a, 1)
  | [] => (0, 0)
theorem stepQ_three (a b c : UInt8) (r : Bs) : stepQ (a :: b :: c :: r) = if escL a b c then (16 * hexL b + hexL c, 3) else (a, 1) := rfl
theorem stepQ_dec (s : Bs) (h : s ≠ []) : decU s = (stepQ s).1 :: decU (s.drop (stepQ s).2) := by
  match s, h with
  | [a], _ => rfl
  | [a, b], _ => rfl
  | a :: b :: c :: r, _ =>
    rw [decU, stepQ_three]
    cases escL a b c <;> rfl
theorem stepQ_pos (s : Bs) (h : s ≠ []) : 1 ≤ (stepQ s).2 ∧ (stepQ s).2 ≤ s.length := by
  match s, h with
  | [a], _ => exact ⟨Nat.le_refl _, Nat.le_refl _⟩
  | [a, b], _ => exact ⟨Nat.le_refl _, by show (1 : Nat) ≤ 2; decide⟩
  | a :: b :: c :: r, _ =>
    rw [stepQ_three]
    cases escL a b c <;> simp
theorem hex_at (x : UInt8) : Lib.indexByte digsB.data.toList x = if isHexL x then ((hexL x).toNat : Int) else -1 := u8_all (p := fun x => Lib.indexByte digsB.data.toList x = if isHexL x then ((hexL x).toNat : Int) else -1) (by decide +kernel) x
theorem hex_lt (x : UInt8) (h : isHexL x = true) : (hexL x).toNat < 16 := u8_all (p := fun x => isHexL x = true → (hexL x).toNat < 16) (by decide +kernel) x h
theorem or_hex (h l : Nat) (h1 : h < 16) (h2 : l < 16) : bits BinOp.or IntKind.i64 ((h : Int) * 16) (l : Int) = 16 * h + l := by
  have key : ∀ a b : Fin 16, bits BinOp.or IntKind.i64 ((a.val : Int) * 16) (b.val : Int) = 16 * a.val + b.val := by decide +kernel
  exact key ⟨h, h1⟩ ⟨l, h2⟩
theorem hex_add (p q : UInt8) (h1 : p.toNat < 16) (h2 : q.toNat < 16) : (16 * p + q).toNat = 16 * p.toNat + q.toNat := by
  have e : (16 : UInt8).toNat = 16 := rfl
  rw [UInt8.toNat_add, UInt8.toNat_mul, e]
  omega
theorem belowN (w : World) : ∀ n, Below w.heap.size w (w.drewN n)
  | 0 => Below.refl _ _
  | n + 1 => (belowN w n).drew
theorem get_list (s : ByteArray) (k : Nat) (h : k < s.size) : s.data.toList[k]? = some s[k] := by
  rw [Array.getElem?_toList, Array.getElem?_eq_getElem h]; rfl
theorem stepQ_none {s : ByteArray} (h : 0 < s.size) (hn : s[0] ≠ 37 ∨ s.size ≤ 2 ∨ ∃ (h2 : 2 < s.size), isHexL s[1] = false ∨ isHexL s[2] = false) : stepQ s.data.toList = (s[0], 1) := by
  have hl := rl_size s
  have g0 := get_list s 0 h
  match hs : s.data.toList with
  | [] => rw [hs] at hl; simp at hl; omega
  | [a] => rw [hs] at g0; simp at g0; rw [← g0]; rfl
  | [a, b] => rw [hs] at g0; simp at g0; rw [← g0]; rfl
  | a :: b :: c :: r =>
    rw [hs] at hl
    simp only [List.length_cons] at hl
    have g1 := get_list s 1 (by omega)
    have g2 := get_list s 2 (by omega)
    rw [hs] at g0 g1 g2
    simp only [List.getElem?_cons_zero, List.getElem?_cons_succ, Option.some.injEq] at g0 g1 g2
    have he : escL a b c = false := by
      unfold escL
      rw [Bool.and_eq_false_iff, Bool.and_eq_false_iff]
      rcases hn with hn | hn | ⟨_, hn | hn⟩
      · exact .inl (.inl (beq_eq_false_iff_ne.2 (by rw [g0]; exact hn)))
      · omega
      · exact .inl (.inr (by rw [g1]; exact hn))
      · exact .inr (by rw [g2]; exact hn)
    rw [stepQ_three, he, if_neg (by simp), g0]
theorem stepQ_esc {s : ByteArray} (h : 2 < s.size) (h0 : s[0] = 37) (h1 : isHexL s[1] = true) (h2 : isHexL s[2] = true) : stepQ s.data.toList = ((16 : UInt8) * hexL s[1] + hexL s[2], 3) := by
  have hl := rl_size s
  have g0 := get_list s 0 (by omega)
  have g1 := get_list s 1 (by omega)
  have g2 := get_list s 2 (by omega)
  match hs : s.data.toList with
  | [] => rw [hs] at hl; simp at hl; omega
  | [a] => rw [hs] at hl; simp at hl; omega
  | [a, b] => rw [hs] at hl; simp at hl; omega
  | a :: b :: c :: r =>
    rw [hs] at g0 g1 g2
    simp only [List.getElem?_cons_zero, List.getElem?_cons_succ, Option.some.injEq] at g0 g1 g2
    rw [stepQ_three, show escL a b c = true from by unfold escL; rw [g0, g1, g2, h0, h1, h2]; rfl, if_pos rfl, g1, g2]

set_option maxRecDepth 100000 in
set_option maxHeartbeats 2000000 in
theorem byteOf_any (s : ByteArray) (w : World) (hs : s.size ≤ maxLen) (h0 : 0 < s.size) :
    Calls Tryd.prog 34 #[.string s] w fun e w' => e = .returned (.tuple #[.int .u8 (stepQ s.data.toList).1.toNat, .int .i64 (stepQ s.data.toList).2]) ∧ Below w.heap.size w w' := by
  unfold maxLen at hs
  have k0 : (0 : Int) < (s.size : Int) := by omega
  by_cases ha : s[0] = 37
  · by_cases h2 : 2 < s.size
    · have k2 : (2 : Int) < (s.size : Int) := by omega
      have k1 : (1 : Int) < (s.size : Int) := by omega
      have hb0 : ((s[0].toNat : Int) == 37) = true := by rw [ha]; rfl
      have k12 : (2 : Int) ≤ (s.size : Int) := by omega
      have J1 := fun W => index_byte digsB s[1] W
      have J2 := fun W => index_byte digsB s[2] W
      rw [hex_at] at J1 J2
      cases e1 : isHexL s[1] with
      | true =>
        rw [e1, if_pos rfl] at J1
        have l1 := hex_lt _ e1
        have p0 : (0 : Int) ≤ ((hexL s[1]).toNat : Int) := by omega
        cases e2 : isHexL s[2] with
        | true =>
          rw [e2, if_pos rfl] at J2
          rw [stepQ_esc h2 ha e1 e2]
          have l2 := hex_lt _ e2
          have q0 : (0 : Int) ≤ ((hexL s[2]).toNat : Int) := by omega
          have I1 := Lib.hid J1
          have I2 := Lib.hid J2
          have hx := hex_add (hexL s[1]) (hexL s[2]) l1 l2
          clear J1 J2
          obtain ⟨p, hp⟩ : ∃ p, hexL s[1] = p := ⟨_, rfl⟩
          obtain ⟨q, hq⟩ : ∃ q, hexL s[2] = q := ⟨_, rfl⟩
          rw [hp] at I1 p0 hx l1 ⊢
          rw [hq] at I2 q0 hx l2 ⊢
          have ho := or_hex p.toNat q.toNat l1 l2
          clear hp hq e1 e2 ha
          have HX := Lib.hid hx
          have hmod : (16 * (p.toNat : Int) + (q.toNat : Int)) % 256 = 16 * (p.toNat : Int) + (q.toNat : Int) := by omega
          clear hx
          go_enter Tryd.func34, Tryd.ntmps34
          go_wp2_with fail
          go_quiet ((go_at_call 58; first | exact Calls.quiet_of_same (I1.out _) | exact Calls.quiet_of_same (I2.out _)))
          go_wp2_with fail
          go_ret2
          exact ⟨by rw [HX.out]; simp, belowN _ _⟩
        | false =>
          rw [e2, if_neg (by simp)] at J2
          rw [stepQ_none h0 (.inr (.inr ⟨h2, .inr e2⟩)), ha]
          have I1 := Lib.hid J1
          have I2 := Lib.hid J2
          clear J1 J2
          obtain ⟨p, hp⟩ : ∃ p, hexL s[1] = p := ⟨_, rfl⟩
          rw [hp] at I1 p0 l1
          clear hp e1 e2
          go_enter Tryd.func34, Tryd.ntmps34
          go_wp2_with fail
          go_quiet ((go_at_call 58; first | exact Calls.quiet_of_same (I1.out _) | exact Calls.quiet_of_same (I2.out _)))
          go_wp2_with fail
          go_ret2
          exact ⟨rfl, belowN _ _⟩
      | false =>
        rw [e1, if_neg (by simp)] at J1
        rw [stepQ_none h0 (.inr (.inr ⟨h2, .inl e1⟩)), ha]
        obtain ⟨z, hz⟩ : ∃ z : Int, (if isHexL s[2] then ((hexL s[2]).toNat : Int) else -1) = z := ⟨_, rfl⟩
        rw [hz] at J2
        have I1 := Lib.hid J1
        have I2 := Lib.hid J2
        clear J1 J2 hz e1
        go_enter Tryd.func34, Tryd.ntmps34
        go_wp2_with fail
        go_quiet ((go_at_call 58; first | exact Calls.quiet_of_same (I1.out _) | exact Calls.quiet_of_same (I2.out _)))
        go_wp2_with fail
        go_ret2
        exact ⟨rfl, belowN _ _⟩
    · have hst := stepQ_none h0 (.inr (.inl (by omega)))
      have k2 : ¬ (2 : Int) < (s.size : Int) := by omega
      have hb0 : ((s[0].toNat : Int) == 37) = true := by rw [ha]; rfl
      rw [hst]
      clear hst ha
      go_enter Tryd.func34, Tryd.ntmps34
      go_wp2_with fail
      go_ret2
      exact ⟨rfl, Below.refl _ _⟩
  · have hst := stepQ_none h0 (.inl ha)
    have hb0 : ((s[0].toNat : Int) == 37) = false := by
      rw [show (37 : Int) = ((37 : UInt8).toNat : Int) from rfl, beq_eq_false_iff_ne]
      intro e
      exact ha (UInt8.toNat_inj.1 (by omega))
    rw [hst]
    clear hst ha
    go_enter Tryd.func34, Tryd.ntmps34
    go_wp2_with fail
    go_ret2
    exact ⟨rfl, Below.refl _ _⟩
end Go.Proofs.YthkbpophckjdnaaDoor
