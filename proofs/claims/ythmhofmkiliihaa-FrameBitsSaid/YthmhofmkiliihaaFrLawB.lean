/-
  The law FrameBits, walked.
-/
import Derived.Test.YthmhofmkiliihaaFrKnown
namespace Go.Proofs.Ythmhofmkiliihaa
open Go Go.RowKit Go.Shelf Go.Proofs

theorem raw_set {n j : Nat} {b : Bs} {x y : UInt8} (hn : n < 2 ^ 32) (hx : b[j]? = some x) (h : rawN n b = rawN n (b.set j y)) : x = y := by
  obtain ⟨hj, hx2⟩ := List.getElem?_eq_some_iff.1 hx
  have e1 : b = b.take j ++ x :: b.drop (j + 1) := by rw [← hx2, ← List.drop_eq_getElem_cons hj, List.take_append_drop]
  have e2 : b.set j y = b.take j ++ y :: b.drop (j + 1) := List.set_eq_take_append_cons_drop.trans (if_pos hj)
  rw [e2] at h
  conv at h => lhs; rw [e1]
  rw [raw_append, raw_append] at h
  have hs := raw_lt (b.take j) hn
  generalize rawN n (b.take j) = s at *
  have h1 := raw_inj (b.drop (j + 1)) (a := byteN s x) (b := byteN s y) (steps_lt 8 (xor_lt32 hs (byte_lt32 x))) (steps_lt 8 (xor_lt32 hs (byte_lt32 y))) h
  have h2 := steps_inj 8 (xor_lt32 hs (byte_lt32 x)) (xor_lt32 hs (byte_lt32 y)) h1
  have h3 := congrArg (s ^^^ ·) h2
  simp only [← Nat.xor_assoc, Nat.xor_self, Nat.zero_xor] at h3
  exact UInt8.toNat_inj.1 h3
theorem sum_set {a b : Bs} {j : Nat} {x y : UInt8} (hx : b[j]? = some x) (h : sumN [a, b] = sumN [a, b.set j y]) : x = y := by
  rw [sum_two, sum_two] at h
  unfold moreN at h
  have e1 := congrArg (· ^^^ onesN) h
  simp only [xor_twice] at e1
  exact raw_set (raw_lt _ (xor_lt32 (by decide) ones_lt)) hx e1
/-- One byte of a frame another one. -/
theorem frame_spoilt {b x : Bs} {k : Nat} {y z : UInt8} (hl : b.length ≤ 65536) (hk : (encF b)[k]? = some y) (hyz : y ≠ z) (h : nextF ((encF b).set k z) = some x) : k < 4 ∧ x.length ≠ b.length := by
  obtain ⟨h1, h2, h3⟩ := next_some h
  have hkl := (List.getElem?_eq_some_iff.1 hk).1
  have hne : (encF b).set k z ≠ encF b := fun e => by
    have := congrArg (fun l => l[k]?) e
    simp only [List.getElem?_set_self hkl, hk, Option.some.injEq] at this
    exact hyz this.symm
  have hel := encF_length b
  have same : x.length = b.length → (encF b).set k z = encF x := fun e => by
    rw [List.drop_of_length_le (by rw [List.length_set, hel]; omega), List.append_nil] at h1
    exact h1
  have ex : ∀ l : Bs, encF l = (sizeF l ++ sumF l) ++ l := fun l => by unfold encF; rw [List.append_assoc]
  have ls : ∀ l : Bs, (sizeF l ++ sumF l).length = 8 := fun l => by unfold sizeF sumF; rw [List.length_append, beN_length, beN_length]
  by_cases hk4 : k < 4
  · refine ⟨hk4, fun e => ?_⟩
    have hs := same e
    have e1 := congrArg (List.take 4) hs
    have e2 : (encF x).take 4 = sizeF x := List.take_left' (beN_length _ _)
    have e3 : (encF b).take 4 = sizeF b := List.take_left' (beN_length _ _)
    rw [e2, show sizeF x = sizeF b by unfold sizeF; rw [e], ← e3] at e1
    have e4 := congrArg (fun l => l[k]?) e1
    simp only [List.getElem?_take_of_lt hk4, List.getElem?_set_self hkl, hk, Option.some.injEq] at e4
    exact hyz e4.symm
  · exfalso
    have e0 : ((encF b).set k z).take 4 = sizeF b := by
      rw [List.take_set_of_le (by omega)]
      exact List.take_left' (beN_length _ _)
    have e1 := congrArg (List.take 4) h1
    rw [e0, List.take_append_of_le_length (by rw [encF_length]; omega), show (encF x).take 4 = sizeF x from List.take_left' (beN_length _ _)] at e1
    have hxl : x.length = b.length := (be_inj (by omega) (by omega) e1).symm
    have hs := same hxl
    have hsz : sizeF x = sizeF b := e1.symm
    have d8 := congrArg (List.drop 8) hs
    rw [ex x, List.drop_left' (ls x)] at d8
    by_cases hk8 : k < 8
    · rw [List.drop_set_of_lt hk8, ex b, List.drop_left' (ls b)] at d8
      rw [← d8] at hs
      exact hne hs
    · rw [ex b, List.drop_set, if_neg (by omega), List.drop_left' (ls b)] at d8
      have hb : b[k - 8]? = some y := by
        rw [ex b, List.getElem?_append_right (by rw [ls]; omega), ls] at hk
        exact hk
      have t8 := congrArg (List.take 8) hs
      rw [List.take_set_of_le (by omega), ex b, ex x, List.take_left' (ls b), List.take_left' (ls x), hsz] at t8
      have hsum := congrArg valN (List.append_cancel_left t8)
      unfold sumF at hsum
      rw [val_be, val_be, Nat.mod_eq_of_lt (sum_lt32 _), Nat.mod_eq_of_lt (sum_lt32 _), hsz, ← d8] at hsum
      exact hyz (sum_set hb hsum)

theorem OB.store {base : Nat} {w : World} {g n c : Nat} {b : Bs} {j : Nat} (h : OB base w (.slice (some ⟨g, 0, Option.none⟩) n c) b) (y : UInt8) : OB base (w.setCell ⟨g, j, Option.none⟩ (.int .u8 (y.toNat : Int))) (.slice (some ⟨g, 0, Option.none⟩) n c) (b.set j y) := by
  have hn : n = b.length := by
    rcases h.2 with ⟨h0, _⟩ | ⟨g', cap', cur, h0, _⟩
    · cases h0
    · cases h0; rfl
  subst hn
  have h1 := (World.ownsRow.stored h j (.int .u8 (y.toNat : Int))).1
  unfold OB valsB
  rw [List.map_set, List.length_set]
  exact h1
theorem OB.cell {base : Nat} {w : World} {g n c : Nat} {b : Bs} {j : Nat} {y : UInt8} (h : OB base w (.slice (some ⟨g, 0, Option.none⟩) n c) b) (hy : b[j]? = some y) : w.cell? ⟨g, j, Option.none⟩ = some (.int .u8 (y.toNat : Int)) ∧ w.frozen? ⟨g, j, Option.none⟩ = false := by
  have h1 := World.ownsRow.cells h (g := g) rfl j (.int .u8 (y.toNat : Int)) (by unfold valsB; rw [List.getElem?_map, hy]; rfl)
  rw [Go.WideShapes.add_plain, Nat.zero_add] at h1
  refine ⟨h1, ?_⟩
  rcases h.2 with ⟨h0, _⟩ | ⟨g', cap', cur, h0, _, h2, _⟩
  · cases h0
  · cases h0
    simp [World.frozen?, h2]

/-- One bit of a byte another one. -/
theorem flip_bit (y s : UInt8) : ∃ z : UInt8, bits .xor .u8 (y.toNat : Int) (2 ^ (s.toNat % 8) % 256) = (z.toNat : Int) ∧ y ≠ z := by
  have hm : ∀ m : Nat, m < 8 → (2 : Int) ^ m % 256 = ((2 ^ m : Nat) : Int) ∧ 2 ^ m < 256 ∧ 2 ^ m ≠ 0 := by decide
  obtain ⟨h1, h2, h3⟩ := hm (s.toNat % 8) (by omega)
  generalize 2 ^ (s.toNat % 8) = d at *
  have hlt : y.toNat ^^^ d < 2 ^ 8 := Nat.xor_lt_two_pow y.toNat_lt h2
  refine ⟨UInt8.ofNat (y.toNat ^^^ d), ?_, fun e => ?_⟩
  · rw [h1, u8_xor_nat y.toNat d y.toNat_lt h2]
    show _ = (((y.toNat ^^^ d) % 256 : Nat) : Int)
    rw [Nat.mod_eq_of_lt (by omega)]
  · have e1 := congrArg UInt8.toNat e
    have e2 : (UInt8.ofNat (y.toNat ^^^ d)).toNat = y.toNat ^^^ d := by
      show (y.toNat ^^^ d) % 256 = _
      exact Nat.mod_eq_of_lt (by omega)
    rw [e2] at e1
    have e3 := congrArg (y.toNat ^^^ ·) e1
    simp only [← Nat.xor_assoc, Nat.xor_self, Nat.zero_xor] at e3
    exact h3 e3.symm

set_option maxHeartbeats 8000000 in
theorem framebits_any (A : Option Addr) (c : Nat) (b : Bs) (t : Nat) (ht : t < 65536) (s : UInt8) (w : World) (hs : SlAt w A c b) :
    Calls Try.prog 5 #[.slice A b.length c, .int .u16 t, .int .u8 (s.toNat : Int)] w fun e w' => e = .returned (.bool true) ∧ Below w.heap.size w w' := by
  by_cases hl : b.length ≤ 600
  · have q0 : ((600 : Int) < (b.length : Int)) = False := eq_false (by omega)
    have H1 := Lib.hid (encode_any b A c w hs (by omega))
    have hel := encF_length b
    have wt : IntKind.i64.wrap (t : Int) = (t : Int) := IntWalk.i64_in _ (by omega)
    obtain ⟨k, hk⟩ : ∃ k, t % (8 + b.length) = k := ⟨_, rfl⟩
    have hkl : k < 8 + b.length := by rw [← hk]; exact Nat.mod_lt _ (by omega)
    have ek : (t : Int) % (8 + (b.length : Int)) = (k : Int) := by rw [← hk, Int.natCast_emod, Int.natCast_add]; rfl
    clear hs
    go_enter Try.func5, Try.ntmps5
    go_wp2_with fail
    refine H1.out.mono ?_
    clear H1
    rintro e w1 ⟨v1, rfl, ho1, hb1⟩
    obtain ⟨A1, c1, rfl, hs1, hg1⟩ := ho1.sl
    obtain ⟨g, rfl, hbase, cur, hcur⟩ := hg1 (by omega)
    obtain ⟨y, hy⟩ : ∃ y, (encF b)[k]? = some y := ⟨_, List.getElem?_eq_getElem (by omega)⟩
    obtain ⟨cc, cf⟩ := ho1.cell hy
    obtain ⟨z, hz, hyz⟩ := flip_bit y s
    have HY := Lib.hid (fun x h => frame_spoilt (b := b) (x := x) (z := z) (by omega) hy hyz h)
    have hst := ho1.store (j := k) z
    rw [hel] at hst ⊢
    have hgr := (Below.refl w.heap.size w1).setCell (p := ⟨g, k, none⟩) hbase (.int .u8 (z.toNat : Int))
    have hb2 := hb1.trans hgr
    have hsl : SlAt (w1.setCell ⟨g, k, none⟩ (.int .u8 (z.toNat : Int))) (some ⟨g, 0, none⟩) c1 ((encF b).set k z) := by
      obtain ⟨A', c', e, h1, _⟩ := hst.sl
      simp only [Value.slice.injEq] at e
      obtain ⟨rfl, _, rfl⟩ := e
      exact h1
    have hlen : ((encF b).set k z).length = 8 + b.length := by rw [List.length_set, hel]
    have H2 := Lib.hid (next_any (some ⟨g, 0, none⟩) c1 ((encF b).set k z) _ hsl (by rw [hlen]; omega))
    rw [hlen] at H2
    have HB2 := Lib.hid hb2
    have k0 : (0 : Int) ≤ (k : Int) := by omega
    have k1 : (k : Int) < 8 + (b.length : Int) := by omega
    clear hst hgr hb2 hsl hlen hs1 hg1 hcur ho1 hb1 hy hk hyz hel
    go_wp2_with fail
    refine H2.out.mono ?_
    clear H2
    rintro e w2 ⟨A2, c2, x2, n2, rfl, ho2, hx2, hb2⟩
    have hb3 := HB2.out.trans (hb2.mono HB2.out.size)
    have H3 := Lib.hid (known_any w2)
    have HB3 := Lib.hid hb3
    clear ho2 hb2 hb3 HB2 cc cf hz
    by_cases h4 : 4 ≤ k
    · have p4 : ((4 : Int) ≤ (k : Int)) = True := eq_true (by omega)
      obtain ⟨rfl, rfl⟩ : x2 = [] ∧ n2 = 0 := by
        rcases hx2 with ⟨h1, _⟩ | ⟨_, h2, h3⟩
        · have := (HY.out _ h1).1; omega
        · exact ⟨h2, h3⟩
      clear hx2
      go_wp2_with fail
      refine H3.out.mono ?_
      rintro e w3 ⟨rfl, hb4⟩
      go_wp2_with fail
      go_ret
      exact ⟨rfl, HB3.out.trans (hb4.mono HB3.out.size)⟩
    · have p4 : ((4 : Int) ≤ (k : Int)) = False := eq_false (by omega)
      have hne : n2 ≠ 8 + b.length := by
        rcases hx2 with ⟨h1, h2⟩ | ⟨_, _, h3⟩
        · have := (HY.out _ h1).2; omega
        · omega
      have p5 : ((n2 : Int) = 8 + (b.length : Int)) = False := eq_false (by omega)
      have p6 : ((n2 : Int) != 8 + (b.length : Int)) = true := by simp; omega
      clear hx2 hne
      go_wp2_with fail
      refine H3.out.mono ?_
      rintro e w3 ⟨rfl, hb4⟩
      go_wp2_with fail
      go_ret
      exact ⟨rfl, HB3.out.trans (hb4.mono HB3.out.size)⟩
  · have q0 : ((600 : Int) < (b.length : Int)) = True := eq_true (by omega)
    have H1 := Lib.hid (known_any w)
    clear hs
    go_enter Try.func5, Try.ntmps5
    go_wp2_with fail
    refine H1.out.mono ?_
    rintro e w1 ⟨rfl, hb⟩
    go_wp2_with fail
    go_ret
    exact ⟨rfl, hb⟩
end Go.Proofs.Ythmhofmkiliihaa
