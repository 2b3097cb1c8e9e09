/-
  The contract of rule.Quote.
-/
import Derived.Test.YthkbpophckjdnaaDoorRlSb
import Derived.Test.YthkbpophckjdnaaDoorRlSmall
import Derived.Laws.IdiomStrings
namespace Go.Proofs.YthkbpophckjdnaaDoor
open Go Go.RowKit Go.Shelf Go.Proofs
attribute [local go_sem] Oper.semAt_some

def capQ (w : World) (s : ByteArray) : Nat := grownCap w s.size 0 5
def rowQ (w : World) (s : ByteArray) : Obj := .cells (bytesRow s (capQ w s)) 5 ((bytesRow s (capQ w s)).size, (bytesRow s (capQ w s)).size + 1)
theorem convQ (w : World) (s : ByteArray) : (convert 9 45 (.string s)).run Tryd.prog w = .ok (.slice (some ⟨w.heap.size, 0, none⟩) s.size (capQ w s)) (w.drew.alloc (rowQ w s)) :=
  run_bytes_of_string w 9 45 5 s Tryd.underlying9 Tryd.underlying45 Tryd.underlying5
theorem capQ_le (w : World) (s : ByteArray) (h : s.size ≤ 1000000000) : capQ w s ≤ 9223372036854775807 :=
  grownCap_le_maxLen w s.size 0 _ (by unfold maxLen; omega)
theorem rowQ_at (w W : World) (s : ByteArray) (k : Nat) (hk : W.heap[k]? = some (rowQ w s)) (j : Nat) (h : j < s.size) : W.cell? ⟨k, j, none⟩ = some (.int .u8 (s[j].toNat : Int)) := by
  have := bytesRow_at s (capQ w s) j h
  unfold rowQ at hk
  simp only [World.cell?, hk, this]
  rfl
abbrev digsB : ByteArray := ⟨#[48, 49, 50, 51, 52, 53, 54, 55, 56, 57, 97, 98, 99, 100, 101, 102]⟩
theorem dig_at : ∀ n : Fin 16, digsB[n.val]'(n.isLt) = digL (UInt8.ofNat n.val) := by decide +kernel
theorem dig_hi (b : UInt8) (h : b.toNat / 16 < digsB.size) : digsB[b.toNat / 16]'h = digL (b / 16) := by
  have := dig_at ⟨b.toNat / 16, h⟩
  rw [this]
  exact u8_all (p := fun b => digL (UInt8.ofNat (b.toNat / 16)) = digL (b / 16)) (by decide +kernel) b
theorem dig_lo (b : UInt8) (h : b.toNat % 16 < digsB.size) : digsB[b.toNat % 16]'h = digL (b % 16) := by
  have := dig_at ⟨b.toNat % 16, h⟩
  rw [this]
  exact u8_all (p := fun b => digL (UInt8.ofNat (b.toNat % 16)) = digL (b % 16)) (by decide +kernel) b
theorem and_lo (b : UInt8) : bits BinOp.and IntKind.u8 (b.toNat : Int) 15 = (b.toNat : Int) % 16 := u8_all (p := fun b => bits BinOp.and IntKind.u8 (b.toNat : Int) 15 = (b.toNat : Int) % 16) (by decide +kernel) b
theorem byteCells_len (l : Bs) : (Lib.byteCells l).length = l.length := by simp [Lib.byteCells]
theorem quote_step (s : ByteArray) (k : Nat) (h : k < s.size) : quoteB (s.data.toList.take (k + 1)) = quoteB (s.data.toList.take k) ++ qb s[k] := by
  rw [take_snoc s k h]
  unfold quoteB
  rw [List.flatMap_append]
  simp
theorem quote_pre (s : ByteArray) (k : Nat) : (quoteB (s.data.toList.take k)).length ≤ 3 * s.size := by
  have h := quoteB_len (s.data.toList.take k)
  rw [List.length_take, rl_size] at h
  omega
set_option maxRecDepth 100000 in
set_option maxHeartbeats 2000000 in
theorem quote_any (s : ByteArray) (w : World) (hs : s.size ≤ 1000000000) :
    Calls Tryd.prog 17 #[.string s] w fun e w' => e = .returned (.string (mkB (quoteL s.data.toList))) ∧ Below w.heap.size w w' := by
  have hl := rl_size s
  cases he : s.toList.isEmpty with
  | true =>
    have hq : quoteL s.data.toList = [37] := by rw [toList_nil he]; rfl
    have HQ := Lib.hid hq
    clear hq hl
    go_enter Tryd.func17, Tryd.ntmps17
    go_wp2_with fail
    go_ret
    exact ⟨by rw [HQ.out]; rfl, Below.refl _ _⟩
  | false =>
    have hcv := convQ
    go_enter Tryd.func17, Tryd.ntmps17
    go_wp2_with fail
    obtain ⟨B, hB⟩ : ∃ B, w.heap.size = B := ⟨_, rfl⟩
    obtain ⟨W1, hW1⟩ : ∃ W1, w.alloc (.cells #[.pointer none, .slice none 0 0] 67) = W1 := ⟨_, rfl⟩
    have s1 : W1.heap.size = B + 1 := by rw [← hW1, World.size_alloc, hB]
    have n1 : W1.heap[B]? = some (.cells #[.pointer none, .slice none 0 0] 67 (0, 0)) := by
      have := heap_alloc_new w (.cells #[.pointer none, .slice none 0 0] 67)
      rw [hW1, hB] at this; exact this
    have b1 : Below B w W1 := by rw [← hW1]; exact (Below.refl B w).alloc (by omega) _
    rw [hW1, hB]
    obtain ⟨C, hC⟩ : ∃ C, capQ W1 s = C := ⟨_, rfl⟩
    have hCm : C ≤ 9223372036854775807 := by rw [← hC]; exact capQ_le W1 s hs
    rw [hC]
    obtain ⟨W2, hW2⟩ : ∃ W2, (W1.alloc (rowQ W1 s)).drew = W2 := ⟨_, rfl⟩
    have s2 : W2.heap.size = B + 2 := by rw [← hW2]; show (W1.alloc _).heap.size = _; rw [World.size_alloc, s1]
    have n2 : W2.heap[B + 1]? = some (rowQ W1 s) := by
      have := heap_alloc_new W1 (rowQ W1 s)
      rw [← hW2, ← s1]; exact this
    have n3 : W2.heap[B]? = some (.cells #[.pointer none, .slice none 0 0] 67 (0, 0)) := by
      rw [← hW2]; exact (Lib.alloc_old W1 _ B (by omega)).trans n1
    have b2 : Below B w W2 := by rw [← hW2]; exact (b1.alloc (by omega) _).drew
    rw [hW2]
    have hC1 : s.size ≤ C := by rw [← hC]; exact grownCap_ge W1 s.size 0 _
    have HB := Lib.hid hB
    have S2 := Lib.hid s2
    have N2 := Lib.hid n2
    have B2 := Lib.hid b2
    have G0 : Hid (BuiltG (B + 2) B (Lib.byteCells (quoteB (s.data.toList.take 0))) W2) := BuiltG.new n3
    clear hcv hW1 hW2 s1 n1 b1 s2 n2 n3 b2 hC hB
    go_loopw [5, 11] (fun v5 i wr => ∃ k : Nat, k ≤ s.size ∧ i = .int .i64 k ∧ Hid (BuiltG (B + 2) B (Lib.byteCells (quoteB (s.data.toList.take k))) wr) ∧ KeepBut (B + 2) B W2 wr) (fun _ i _ => s.size - (intOf i).toNat)
    case atStart => exact ⟨0, Nat.zero_le _, rfl, G0.out, KeepBut.refl _ _ _⟩
    case round =>
      obtain ⟨k, hk, rfl, HBU, hkb⟩ := hrel
      have hsz := hkb.size
      have hsz2 : B + 2 ≤ wr.heap.size := by rw [← S2.out]; exact hsz
      have hpre := quote_pre s k
      by_cases h1 : k < s.size
      · have hst := quote_step s k h1
        have k1 : (k : Int) < (s.size : Int) := by omega
        have c0 := rowQ_at W1 wr s (B + 1) ((hkb.block (B + 1) (by omega) (by omega)).trans N2.out) k h1
        obtain ⟨b, hb⟩ : ∃ b, s[k] = b := ⟨_, rfl⟩
        rw [hb] at c0 hst
        have HST := Lib.hid hst
        clear hst hb
        cases hq : selfL b with
        | true =>
          have HQ := Lib.hid hq
          clear hq
          have HL := Lib.hid (byteCells_len (quoteB (s.data.toList.take k)))
          have HW1 := Lib.hid (sg_byte (B + 2) B _ (b.toNat : Int) wr HBU.out (by rw [HL.out]; omega) hsz2)
          go_wp2_with (go_at_call 38; refine (itself_byte b _).mono ?_; rintro e w' ⟨rfl, rfl⟩; rw [HQ.out])
          refine HW1.out.mono ?_
          rintro e w3 ⟨rfl, hg3, hk3⟩
          go_wp2_with fail
          go_roundw
          case rel =>
            refine ⟨k + 1, by omega, by go_num, ?_, hkb.trans hk3⟩
            unfold Hid
            rw [HST.out, qb, HQ.out, if_pos rfl]
            have e : Lib.byteCells (quoteB (s.data.toList.take k) ++ [b]) = Lib.byteCells (quoteB (s.data.toList.take k)) ++ [.int .u8 (b.toNat : Int)] := by simp [Lib.byteCells]
            rw [e]; exact hg3
          case measure => simp [intOf]; omega
        | false =>
          have HQ := Lib.hid hq
          clear hq
          have HL := Lib.hid (byteCells_len (quoteB (s.data.toList.take k)))
          have HW1 := Lib.hid (sg_byte (B + 2) B _ 37 wr HBU.out (by rw [HL.out]; omega) hsz2)
          go_wp2_with (go_at_call 38; refine (itself_byte b _).mono ?_; rintro e w' ⟨rfl, rfl⟩; rw [HQ.out])
          refine HW1.out.mono ?_
          rintro e w3 ⟨rfl, hg3, hk3⟩
          have g1 : (0 : Int) ≤ (b.toNat : Int) / 16 := by omega
          have g2 : (b.toNat : Int) / 16 < 16 := by have := b.toNat_lt; omega
          go_wp2_with fail
          have hz3 := hk3.size
          have hi : b.toNat / 16 < digsB.size := by have := b.toNat_lt; show _ < 16; omega
          obtain ⟨d1, hd1⟩ : ∃ d1 : UInt8, digsB[b.toNat / 16]'hi = d1 := ⟨_, rfl⟩
          rw [hd1]
          rw [dig_hi] at hd1
          have HG4 := Lib.hid (sg_byte (B + 2) B _ (d1.toNat : Int) w3 hg3 (by rw [List.length_append, HL.out]; simp; omega) (by omega))
          have HD1 := Lib.hid hd1
          clear hg3 g1 g2 hd1
          refine HG4.out.mono ?_
          rintro e w4 ⟨rfl, hg4, hk4⟩
          have hz4 := hk4.size
          have ha := and_lo b
          have g3 : (0 : Int) ≤ (b.toNat : Int) % 16 := by omega
          have g4 : (b.toNat : Int) % 16 < 16 := by omega
          go_wp2_with fail
          have hj : b.toNat % 16 < digsB.size := by show _ < 16; omega
          obtain ⟨d2, hd2⟩ : ∃ d2 : UInt8, digsB[b.toNat % 16]'hj = d2 := ⟨_, rfl⟩
          rw [hd2]
          rw [dig_lo] at hd2
          have HG5 := Lib.hid (sg_byte (B + 2) B _ (d2.toNat : Int) w4 hg4 (by rw [List.length_append, List.length_append, HL.out]; simp; omega) (by omega))
          have HD2 := Lib.hid hd2
          clear hg4 g3 g4 hd2 ha
          refine HG5.out.mono ?_
          rintro e w5 ⟨rfl, hg5, hk5⟩
          go_wp2_with fail
          go_roundw
          case rel =>
            refine ⟨k + 1, by omega, by go_num, ?_, ((hkb.trans hk3).trans hk4).trans hk5⟩
            unfold Hid
            rw [HST.out, qb, HQ.out, if_neg (by simp), HD1.out, HD2.out]
            rw [List.append_assoc, List.append_assoc] at hg5
            have e : Lib.byteCells (quoteB (s.data.toList.take k) ++ [37, d1, d2]) = Lib.byteCells (quoteB (s.data.toList.take k)) ++ ([.int .u8 37] ++ ([.int .u8 (d1.toNat : Int)] ++ [.int .u8 (d2.toNat : Int)])) := by simp [Lib.byteCells]
            rw [e]; exact hg5
          case measure => simp [intOf]; omega
      · obtain rfl : k = s.size := by omega
        have hq : quoteL s.data.toList = quoteB (s.data.toList.take s.size) := by
          unfold quoteL
          rw [toList_cons he, if_neg (by simp), List.take_of_length_le (by omega)]
        have hbu := HBU.out.built (by omega)
        have HQ := Lib.hid hq
        have HST := Lib.hid (Tryd.Builder_String_any_k B B _ wr hbu (by omega))
        clear hbu hq
        go_wp2_with fail
        refine HST.out.mono ?_
        rintro e w9 ⟨rfl, _, hb9, _⟩
        go_wp2_with fail
        go_ret
        refine ⟨by rw [HQ.out]; rfl, ?_⟩
        have h1 := B2.out.trans (hkb.below (by omega) (Nat.le_refl _))
        rw [HB.out]
        exact h1.trans hb9
end Go.Proofs.YthkbpophckjdnaaDoor
