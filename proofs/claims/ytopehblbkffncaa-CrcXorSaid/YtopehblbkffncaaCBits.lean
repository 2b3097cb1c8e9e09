/-
  The law CrcBits, walked.
-/
import Derived.Test.YtopehblbkffncaaCOne
import Derived.Laws.AppendOwn
import Derived.Laws.OwnMore
namespace Go.Proofs.Ytopehblbkffncaa
open Go Go.RowKit Go.Shelf Go.Proofs

/-- A row of bytes of the call's own. -/
def BRow (base : Nat) (w : World) (v : Value) (l : Bs) : Prop := w.ownsRow base 5 1 v l.length (l.map fun x => .int .u8 (x.toNat : Int))
theorem maskB_at {n k : Nat} {xs : Bs} (j : Nat) (h : k + xs.length ≤ n) (hj : j < n) : (maskB n k xs)[j]? = some (if j < k then 0 else if j < k + xs.length then xs.getD (j - k) 0 else 0) := by
  unfold maskB
  rw [List.getElem?_append]
  by_cases h1 : j < k
  · rw [if_pos (by simpa using h1), if_pos h1, List.getElem?_replicate, if_pos h1]
  · rw [if_neg (by simpa using h1), if_neg h1, List.length_replicate, List.getElem?_append]
    by_cases h2 : j < k + xs.length
    · rw [if_pos (by omega), if_pos h2, List.getD_eq_getElem?_getD, List.getElem?_eq_getElem (by omega : j - k < xs.length)]; rfl
    · rw [if_neg (by omega), if_neg h2, List.getElem?_replicate, if_pos (by omega)]
theorem xorB_at {a b : Bs} {j : Nat} {x y : UInt8} (hx : a[j]? = some x) (hy : b[j]? = some y) : (xorB a b)[j]? = some (x ^^^ y) := by
  unfold xorB
  rw [List.getElem?_zipWith, hx, hy]
theorem patch_zero (b : Bs) (k : Nat) (h : k ≤ b.length) : xorB b (maskB b.length k []) = b := by
  apply List.ext_getElem?
  intro j
  by_cases hj : j < b.length
  · rw [List.getElem?_eq_getElem hj, xorB_at (List.getElem?_eq_getElem hj) (maskB_at j (by simpa using h) hj)]
    simp
  · have hl := xorB_length b _ (maskB_length (n := b.length) (k := k) (xs := []) (by simpa using h)).symm
    rw [List.getElem?_eq_none (by rw [hl]; omega), List.getElem?_eq_none (by omega)]
theorem patch_next {b xs : Bs} {k : Nat} {x y : UInt8} (h : k + xs.length < b.length) (hy : b[k + xs.length]? = some y) :
    (xorB b (maskB b.length k xs))[k + xs.length]? = some y ∧ (xorB b (maskB b.length k xs)).set (k + xs.length) (y ^^^ x) = xorB b (maskB b.length k (xs ++ [x])) := by
  have hl1 := (maskB_length (n := b.length) (k := k) (xs := xs) (by omega)).symm
  have hl2 := (maskB_length (n := b.length) (k := k) (xs := xs ++ [x]) (by rw [List.length_append, List.length_singleton]; omega)).symm
  refine ⟨?_, ?_⟩
  · rw [xorB_at hy (maskB_at (k + xs.length) (by omega) h), if_neg (by omega), if_neg (by omega)]
    simp
  · apply List.ext_getElem?
    intro j
    rw [List.getElem?_set]
    by_cases hj : j < b.length
    · have hbj := List.getElem?_eq_getElem hj
      rw [xorB_at hbj (maskB_at j (by omega) hj), xorB_at hbj (maskB_at j (by rw [List.length_append, List.length_singleton]; omega) hj)]
      by_cases he : k + xs.length = j
      · subst he
        rw [if_pos rfl, if_pos (by rw [xorB_length _ _ hl1]; exact hj)]
        rw [hbj] at hy
        cases hy
        rw [if_neg (by omega), if_pos (by rw [List.length_append, List.length_singleton]; omega)]
        congr 2
        rw [List.getD_eq_getElem?_getD, Nat.add_sub_cancel_left, List.getElem?_append_right (Nat.le_refl _), Nat.sub_self]; rfl
      · rw [if_neg he]
        congr 2
        by_cases h1 : j < k
        · rw [if_pos h1, if_pos h1]
        · rw [if_neg h1, if_neg h1, List.length_append, List.length_singleton]
          by_cases h2 : j < k + xs.length
          · rw [if_pos h2, if_pos (by omega), List.getD_eq_getElem?_getD, List.getD_eq_getElem?_getD, List.getElem?_append_left (by omega)]
          · rw [if_neg h2, if_neg (by omega)]
    · rw [if_neg (by omega), List.getElem?_eq_none (by rw [xorB_length _ _ hl1]; omega), List.getElem?_eq_none (by rw [xorB_length _ _ hl2]; omega)]

theorem brow_cell {base : Nat} {w : World} {g n cap : Nat} {l : Bs} {j : Nat} {y : UInt8} (h : w.ownsRow base 5 1 (.slice (some ⟨g, 0, none⟩) n cap) n (l.map fun x => Value.int .u8 (x.toNat : Int))) (hy : l[j]? = some y) : w.cell? ⟨g, j, none⟩ = some (.int .u8 (y.toNat : Int)) ∧ w.frozen? ⟨g, j, none⟩ = false := by
  have h1 := World.ownsRow.cells h (g := g) rfl j (.int .u8 (y.toNat : Int)) (by rw [List.getElem?_map, hy]; rfl)
  rw [Go.WideShapes.add_plain, Nat.zero_add] at h1
  refine ⟨h1, ?_⟩
  rcases h.2 with ⟨h0, _⟩ | ⟨g', cap', cur, h0, _, h2, _⟩
  · cases h0
  · cases h0
    simp [World.frozen?, h2]
theorem brow_store {base : Nat} {w : World} {g n cap : Nat} {l : Bs} {j : Nat} (y : UInt8) (h : w.ownsRow base 5 1 (.slice (some ⟨g, 0, none⟩) n cap) n (l.map fun x => Value.int .u8 (x.toNat : Int))) :
    (w.setCell ⟨g, j, none⟩ (.int .u8 (y.toNat : Int))).ownsRow base 5 1 (.slice (some ⟨g, 0, none⟩) n cap) n ((l.set j y).map fun x => Value.int .u8 (x.toNat : Int)) := by
  rw [List.map_set]
  exact (World.ownsRow.stored h j _).1
theorem brow_bytes {base : Nat} {w : World} {g n cap : Nat} {l : Bs} (h : w.ownsRow base 5 1 (.slice (some ⟨g, 0, none⟩) n cap) n (l.map fun x => Value.int .u8 (x.toNat : Int))) : BytesAt w (some ⟨g, 0, none⟩) l := fun _ => ⟨g, 0, rfl, fun i hi => by
  rw [Nat.zero_add, (brow_cell h (List.getElem?_eq_getElem hi)).1]
  have e : (numsB l)[i]? = some ((l[i].toNat : Nat) : Int) := by unfold numsB; rw [List.getElem?_map, List.getElem?_eq_getElem hi]; rfl
  rw [List.getD_eq_getElem?_getD, e]; rfl⟩

theorem four_at {x k : Nat} {q : UInt8} (hk : k < 4) (hq : (fourB x)[k]? = some q) : q.toNat = x / 2 ^ (8 * k) % 256 := by
  unfold fourB at hq
  match k, hk, hq with
  | 0, _, hq => obtain rfl : UInt8.ofNat x = q := by simpa using hq
                show x % 256 = x / 2 ^ 0 % 256
                rw [Nat.pow_zero, Nat.div_one]
  | 1, _, hq => obtain rfl : UInt8.ofNat (x / 2 ^ 8) = q := by simpa using hq
                rfl
  | 2, _, hq => obtain rfl : UInt8.ofNat (x / 2 ^ 16) = q := by simpa using hq
                rfl
  | 3, _, hq => obtain rfl : UInt8.ofNat (x / 2 ^ 24) = q := by simpa using hq
                rfl
theorem four_xor {x k : Nat} {q y : UInt8} (hk : k < 4) (hq : (fourB x)[k]? = some q) : bits .xor .u8 (y.toNat : Int) ((x : Int) / 2 ^ (8 * k) % 256) = ((y ^^^ q).toNat : Int) := by
  have h1 := four_at hk hq
  have h2 : ((x : Int) / 2 ^ (8 * k) % 256) = (q.toNat : Int) := by rw [h1, Int.natCast_emod, Int.natCast_ediv, Int.natCast_pow]; rfl
  rw [h2, UInt8.toNat_xor]
  exact u8_xor_nat _ _ y.toNat_lt q.toNat_lt

set_option maxHeartbeats 8000000 in
theorem cbits_any (_hM : MoreOk) (hS : SumOk) (hT : StepOk) (b : BX) (t x : Nat) (hx : x < 2 ^ 32) (ht : t < 65536) (w : World) (hb : BOk w b) :
    Calls Try.prog 5 #[.slice b.A b.b.length b.c, .int .u16 (t : Int), .int .u32 (x : Int)] w fun e w' => e = .returned (.bool true) ∧ Below w.heap.size w w' := by
  have lb := hb.reach
  unfold reachBytes at lb
  have HKN := Lib.hid (fun (W : World) => ckown_any hS hT W)
  by_cases hz : b.b.length ≤ 1000 ∧ 4 ≤ b.b.length ∧ x ≠ 0
  · obtain ⟨h1, h2, h3⟩ := hz
    have g1 : ¬ (1000 : Int) < (b.b.length : Int) := by omega
    have g2 : ¬ (b.b.length : Int) < 4 := by omega
    have g3 : ((x : Int) == 0) = false := by rw [beq_eq_false_iff_ne]; omega
    have wt : IntKind.i64.wrap (t : Int) = (t : Int) := IntWalk.i64_in _ (by omega)
    have ws : IntKind.i64.wrap ((b.b.length : Int) - 3) = (b.b.length : Int) - 3 := IntWalk.i64_in _ (by omega)
    have hkn : ∃ kk : Nat, (t : Int) % ((b.b.length : Int) - 3) = (kk : Int) ∧ kk + 4 ≤ b.b.length := ⟨t % (b.b.length - 3), by
      have e : (b.b.length : Int) - 3 = ((b.b.length - 3 : Nat) : Int) := by omega
      rw [e, Int.natCast_emod], by
      have := Nat.mod_lt t (show 0 < b.b.length - 3 by omega)
      omega⟩
    obtain ⟨kk, hkk, hk4⟩ := hkn
    obtain ⟨g, o, hA, hcb⟩ := hb.bytes (by omega)
    obtain ⟨i0, hi, hz0, hz1, hz2⟩ := info_parts u8_info
    have hnews : ∀ j u, (b.b.map fun x => Value.int .u8 (x.toNat : Int))[j]? = some u → w.cell? ((⟨g, o, none⟩ : Addr).add j) = some u := fun j u hu => by
      rw [List.getElem?_map] at hu
      obtain ⟨y, hy, rfl⟩ := Option.map_eq_some_iff.1 hu
      obtain ⟨g', o', e', hc'⟩ := hb.bytes.byte hy
      rw [hA] at e'
      cases e'
      rw [Go.WideShapes.add_plain]; exact hc'
    have HNEWS := Lib.hid hnews; clear hnews hcb
    have HBO := Lib.hid hb
    have HI := Lib.hid hi
    have SA := Lib.hid (fun (W : World) (h : Below w.heap.size w W) => sum1_at hS (hb.below h))
    have SC := Lib.hid (fun (W : World) (y : BX) (h : BOk W y) => sum1_at hS h)
    clear hi hb
    go_enter Try.func5, Try.ntmps5
    rw [hA]
    go_wp2_with (at_builtin; refine wpList_append_own w rfl _ _ 24 rfl w.heap.size 5 i0 (.int .u8 0) 1 1 Try.underlying24 HI.out hz0 hz1 hz2 rfl (by decide) (.slice none 0 0) 0 [] rfl (World.ownsRow_nil _ _ _ _) ⟨g, o, none⟩ b.b.length b.c (b.b.map fun x => Value.int .u8 (x.toNat : Int)) rfl (by rw [List.length_map, Nat.mul_one]) HNEWS.out (fun u hu => by obtain ⟨y, _, rfl⟩ := List.mem_map.1 hu; rfl) (by unfold maxLen; omega) (by omega) (Nat.le_refl _) ?_; intro v1 w1 hown1 hgrow1 hnil1)
    rw [Nat.zero_add, List.nil_append] at hown1
    have hb1 : Below w.heap.size w w1 := (Below.refl _ w).grown hgrow1 (Nat.le_refl _) (by intro k hk; cases hk)
    obtain ⟨g1, cap1, rfl⟩ : ∃ g1 cap1, v1 = .slice (some ⟨g1, 0, none⟩) b.b.length cap1 := by
      rcases hown1.2 with ⟨_, h0⟩ | ⟨g', cap', cur, h0, _⟩
      · omega
      · exact ⟨g', cap', h0⟩
    have hbase : w.heap.size ≤ g1 := by
      rcases hown1.2 with ⟨h0, _⟩ | ⟨g', cap', cur, h0, hbg, _⟩
      · cases h0
      · cases h0; exact hbg
    have hcap : b.b.length ≤ cap1 ∧ cap1 ≤ maxLen := by
      rcases hown1.2 with ⟨h0, _⟩ | ⟨g', cap', cur, h0, _, _, h5, h6, _⟩
      · cases h0
      · cases h0; exact ⟨h5, h6⟩
    have hp0 := patch_zero b.b kk (by omega)
    have hrow1 : w1.ownsRow w.heap.size 5 1 (.slice (some ⟨g1, 0, none⟩) b.b.length cap1) b.b.length ((xorB b.b (maskB b.b.length kk [])).map fun x => Value.int .u8 (x.toNat : Int)) := by rw [hp0]; exact hown1
    have HROW1 := Lib.hid hrow1
    clear hown1 hgrow1 hnil1 hrow1 hp0 HNEWS HI hz0 hz1 hz2
    go_loopw [9] (fun i wr => ∃ (k : Nat), k ≤ 4 ∧ i = .int .i64 k ∧ Hid (wr.ownsRow w.heap.size 5 1 (.slice (some ⟨g1, 0, none⟩) b.b.length cap1) b.b.length ((xorB b.b (maskB b.b.length kk ((fourB x).take k))).map fun x => Value.int .u8 (x.toNat : Int))) ∧ Below w.heap.size w wr) (fun i _ => 4 - (intOf i).toNat)
    case atStart => exact ⟨0, Nat.zero_le _, rfl, HROW1, hb1⟩
    case round =>
      clear HROW1 hb1
      obtain ⟨k, hk, rfl, HROW, hbr⟩ := hrel
      by_cases h4 : k < 4
      · have hlen : ((fourB x).take k).length = k := by unfold fourB; rw [List.length_take]; simp; omega
        obtain ⟨y, hy⟩ : ∃ y, b.b[kk + k]? = some y := ⟨_, List.getElem?_eq_getElem (by omega)⟩
        obtain ⟨q, hq⟩ : ∃ q, (fourB x)[k]? = some q := ⟨_, List.getElem?_eq_getElem (by unfold fourB; simp; omega)⟩
        have hpn := patch_next (b := b.b) (xs := (fourB x).take k) (k := kk) (x := q) (y := y) (by rw [hlen]; omega) (by rw [hlen]; exact hy)
        rw [hlen] at hpn
        obtain ⟨hc1, hc2⟩ := hpn
        obtain ⟨cc, cf⟩ := brow_cell HROW.out hc1
        have hst := brow_store (j := kk + k) (y ^^^ q) HROW.out
        rw [hc2] at hst
        have htk : (fourB x).take k ++ [q] = (fourB x).take (k + 1) := by rw [List.take_add_one, hq]; rfl
        rw [htk] at hst
        have k1 : (k : Int) < 4 := by omega
        have w1' : IntKind.i64.wrap ((kk : Int) + (k : Int)) = ((kk + k : Nat) : Int) := by rw [IntWalk.i64_in _ (by omega)]; omega
        have b1 : ((kk + k : Nat) : Int) < (b.b.length : Int) := by omega
        have HST := Lib.hid hst
        clear hst hc1 hc2 hlen htk
        have hv := four_xor (y := y) h4 hq
        have HV := Lib.hid hv; clear hv
        have hgr := (World.ownsRow.stored HROW.out (kk + k) (.int .u8 ((y ^^^ q).toNat : Int))).2
        have hbs := hbr.grown hgr hbr.size (by intro g e; cases e; exact hbase)
        have HBS := Lib.hid hbs
        clear hgr hbs
        go_wp2_with fail
        rw [HV.out]
        exact ⟨⟨k + 1, by omega, by go_num, HST, HBS.out⟩, by simp [intOf]; omega⟩
      · obtain rfl : k = 4 := by omega
        have h44 : (fourB x).take 4 = fourB x := rfl
        rw [h44] at HROW
        have hne := sum_bits (b := b.b) (k := kk) (x := x) hk4 hx h3
        have hcl : (xorB b.b (maskB b.b.length kk (fourB x))).length = b.b.length := xorB_length _ _ (maskB_length (by unfold fourB; simp only [List.length_cons, List.length_nil]; omega)).symm
        have hby := brow_bytes HROW.out
        have SC1 := Lib.hid (fun (W : World) (h : Below wr.heap.size wr W) => SC.out W ⟨some ⟨g1, 0, none⟩, cap1, xorB b.b (maskB b.b.length kk (fourB x))⟩ ⟨hby.below h, by show (xorB _ _).length ≤ cap1; rw [hcl]; exact hcap.1, hcap.2, by show (xorB _ _).length ≤ reachBytes; rw [hcl]; unfold reachBytes; omega⟩)
        rw [hcl] at SC1
        have hne2 : ((moreN 0 b.b : Int) == (moreN 0 (xorB b.b (maskB b.b.length kk (fourB x))) : Int)) = false := by rw [beq_eq_false_iff_ne]; omega
        rw [hA] at SA
        generalize moreN 0 (xorB b.b (maskB b.b.length kk (fourB x))) = Q at *
        generalize moreN 0 b.b = P at *
        have hnq : ((P : Int) = (Q : Int)) = False := eq_false (by omega)
        have hnn : ((P : Int) != (Q : Int)) = true := by rw [bne, hne2]; rfl
        have HNN := Lib.hid hnn
        clear hne hcl hby HROW h44 hk4
        go_wp2_with fail
        refine (SA.out wr hbr).mono ?_
        rintro e w2 ⟨rfl, hq2⟩
        have hb2 := hbr.trans (hq2.mono hbr.size)
        have SC2 := Lib.hid (SC1.out w2 hq2)
        go_wp2_with fail
        refine SC2.out.mono ?_
        rintro e w3 ⟨rfl, hq3⟩
        have hb3 := hb2.trans (hq3.mono hb2.size)
        go_wp2_with fail
        refine (HKN.out w3).mono ?_
        rintro e wz ⟨rfl, hz⟩
        have HZ := Lib.hid (hb3.trans (hz.mono hb3.size)); clear hz
        go_wp2_with fail
        go_ret
        exact ⟨by first | rfl | (rw [HNN.out]; rfl), HZ.out⟩
  · go_enter Try.func5, Try.ntmps5
    by_cases z1 : b.b.length ≤ 1000
    · have g1 : ¬ (1000 : Int) < (b.b.length : Int) := by omega
      by_cases z2 : 4 ≤ b.b.length
      · have g2 : ¬ (b.b.length : Int) < 4 := by omega
        have z3 : x = 0 := Classical.byContradiction fun h => hz ⟨z1, z2, h⟩
        have g3 : ((x : Int) == 0) = true := by rw [beq_iff_eq]; omega
        clear hz z3
        go_wp2_with fail
        refine (HKN.out w).mono ?_
        rintro e wz ⟨rfl, hz⟩
        have HZ := Lib.hid hz; clear hz
        go_wp2_with fail
        go_ret
        exact ⟨rfl, HZ.out⟩
      · have g2 : (b.b.length : Int) < 4 := by omega
        clear hz
        go_wp2_with fail
        refine (HKN.out w).mono ?_
        rintro e wz ⟨rfl, hz⟩
        have HZ := Lib.hid hz; clear hz
        go_wp2_with fail
        go_ret
        exact ⟨rfl, HZ.out⟩
    · have g1 : (1000 : Int) < (b.b.length : Int) := by omega
      clear hz
      go_wp2_with fail
      refine (HKN.out w).mono ?_
      rintro e wz ⟨rfl, hz⟩
      have HZ := Lib.hid hz; clear hz
      go_wp2_with fail
      go_ret
      exact ⟨rfl, HZ.out⟩
end Go.Proofs.Ytopehblbkffncaa
