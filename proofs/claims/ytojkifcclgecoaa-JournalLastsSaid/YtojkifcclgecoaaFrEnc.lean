/-
  frame.Encode: slices.Grow, slices.Concat, the frame of some bytes; the document's own Encode.
-/
import Derived.Test.YtojkifcclgecoaaFrGet
import Derived.Lib.AppendZerosOnto
namespace Go.Proofs.Ytojkifcclgecoaa
open Go Go.RowKit Go.Shelf Go.Proofs

theorem wp_growB {o : Oper} {a : Act} {w : World} {K : Act → World → Prop} {Q : Exit → Act → World → Prop} (s x : Operand) (n : Nat) (h0 : 0 < n) (hn : n ≤ 1000000)
    (ho : o.op = .call { callee := .builtin .append, args := #[s, x], argTypes := #[29, 3] }) (hs : a.eval s = .slice none 0 0) (hx : a.eval x = .int .i64 n)
    (h : ∀ cp w', n ≤ cp → cp ≤ maxLen → OB w.heap.size w' (.slice (some ⟨w.heap.size, 0, none⟩) 0 cp) [] → Below w.heap.size w w' → K (a.put o.dst (.slice (some ⟨w.heap.size, 0, none⟩) n cp)) w') : Oper.wp Try.prog o a w K Q := by
  obtain ⟨i0, hi, hz0, hz1, hz2⟩ := info_parts fr_u8
  have hr := Lib.run_append_grow_zeros (P := Try.prog) w 29 3 o.type 5 i0 (.int .u8 0) .i64 .i64 Try.underlying29 Try.underlying3 hi hz0 none 0 0 [] (by simp [Builtin.firstCells]) n h0 (by omega) (by omega) (by omega) (by rw [hz2]; omega) (by rw [hz2]; unfold Builtin.nextslicecap; rw [if_pos (by omega)]; omega)
  have hg := grownCap_ge w (0 + n) 0 5
  have hm := grownCap_le_maxLen w (0 + n) 0 5 (by unfold maxLen; omega)
  generalize grownCap w (0 + n) 0 5 = cp at *
  unfold Oper.wp execOp
  simp only [ho, resolve, invoke, builtin, Sem.run_bind, Sem.run_pure, Result.andThen_ok, List.map_toArray, List.map_cons, List.map_nil, hs, hx, hr]
  rw [Nat.zero_add]
  refine h cp _ (by omega) hm (World.ownsRow_made w.drew _ cp (Nat.le_refl _) hm ?_) ((Below.refl _ w).drew.alloc (by simp) _)
  simp [size_zeroCells, Value.cells]
  omega
theorem wpList_growB {ops : Array Oper} {rest : List Oper} {o : Oper} {a : Act} {w : World} {Q : Exit → Act → World → Prop} (hgd : o.guard = none) (s x : Operand) (n : Nat) (h0 : 0 < n) (hn : n ≤ 1000000)
    (ho : o.op = .call { callee := .builtin .append, args := #[s, x], argTypes := #[29, 3] }) (hs : a.eval s = .slice none 0 0) (hx : a.eval x = .int .i64 n)
    (h : ∀ cp w', n ≤ cp → cp ≤ maxLen → OB w.heap.size w' (.slice (some ⟨w.heap.size, 0, none⟩) 0 cp) [] → Below w.heap.size w w' → wpList Try.prog ops Q rest (a.put o.dst (.slice (some ⟨w.heap.size, 0, none⟩) n cp)) w') : wpList Try.prog ops Q (o :: rest) a w :=
  wpList_plain hgd fun _ hK => wp_growB s x n h0 hn ho hs hx fun cp w' h1 h2 h3 h4 => hK _ _ (h cp w' h1 h2 h3 h4)

set_option maxHeartbeats 4000000 in
theorem grow_any (n : Nat) (h0 : 0 < n) (hn : n ≤ 1000000) (w : World) :
    Calls Try.prog 84 #[.slice none 0 0, .int .i64 n] w fun e w' => ∃ v, e = .returned v ∧ OB w.heap.size w' v [] ∧ Below w.heap.size w w' := by
  have q0 : ((n : Int) < 0) = False := eq_false (by omega)
  have q1 : (0 : Int) < (n : Int) := by omega
  go_enter Try.func84, Try.ntmps84
  go_wp2_with (at_builtin; refine wpList_growB rfl _ _ n h0 hn rfl rfl rfl ?_; intro cp w1 hc1 hc2 hown hb)
  have q2 : (0 : Int) ≤ (cp : Int) := by omega
  go_wp2_with fail
  go_ret
  exact ⟨_, rfl, hown, hb⟩

/-- How many bytes the first k rows have. -/
def catL (l : List BX) (k : Nat) : Bs := ((l.take k).map BX.b).flatten
theorem catL_next {l : List BX} {k : Nat} {x : BX} (hx : l[k]? = some x) : catL l (k + 1) = catL l k ++ x.b := by
  unfold catL
  rw [List.take_add_one, hx, List.map_append, List.flatten_append]
  simp
theorem catL_le (l : List BX) (k : Nat) : (catL l k).length ≤ (l.map BX.b).flatten.length := by
  unfold catL
  conv => rhs; rw [← List.take_append_drop k l]
  rw [List.map_append, List.flatten_append, List.length_append]
  omega

set_option maxHeartbeats 4000000 in
theorem concat_any (l : List BX) (A : Option Addr) (c : Nat) (w : World) (h : BRowAt w A c l) (hnil : ∀ x ∈ l, x.A = none → x.c = 0) (h0 : 0 < (l.map BX.b).flatten.length) (hl : (l.map BX.b).flatten.length ≤ 1000000) :
    Calls Try.prog 70 #[.slice A l.length c] w fun e w' => ∃ v, e = .returned v ∧ OB w.heap.size w' v (l.map BX.b).flatten ∧ Below w.heap.size w w' := by
  have hcap : l.length ≤ maxLen := Nat.le_trans h.cap h.capm
  unfold maxLen at hcap
  have hall : catL l l.length = (l.map BX.b).flatten := by unfold catL; rw [List.take_length]
  have hle := catL_le l
  rw [← hall] at h0 hl hle ⊢
  have HT := Lib.hid h; clear h
  have HN := Lib.hid hnil; clear hnil hall
  have HLE := Lib.hid hle; clear hle
  have HG := Lib.hid (grow_any (catL l l.length).length h0 hl)
  go_enter Try.func70, Try.ntmps70
  go_wp2_with fail
  go_loopw [3, 11] (fun v i wr => ∃ (k : Nat), k ≤ l.length ∧ v = .int .i64 (catL l k).length ∧ i = .int .i64 k ∧ wr = w) (fun _ i _ => l.length - (intOf i).toNat)
  case atStart => exact ⟨0, Nat.zero_le _, rfl, rfl, by trivial⟩
  case round =>
    obtain ⟨k, hk, rfl, rfl, hw⟩ := hrel
    have hw := hw.symm
    subst hw
    by_cases h1 : k < l.length
    · obtain ⟨x, hx⟩ : ∃ x, l[k]? = some x := ⟨_, List.getElem?_eq_getElem h1⟩
      obtain ⟨g, o, rfl, hr⟩ := HT.out.row (by omega)
      have c1 := hr k x hx
      have k1 : (k : Int) < (l.length : Int) := by omega
      have hn := catL_next hx
      have hle := HLE.out (k + 1)
      have e1 : (catL l (k + 1)).length = (catL l k).length + x.b.length := by rw [hn, List.length_append]
      have HE := Lib.hid e1
      rw [e1] at hle
      generalize (catL l k).length = V at *
      generalize (catL l l.length).length = T at *
      have q0 : ((V : Int) + (x.b.length : Int) < 0) = False := eq_false (by omega)
      clear hr hn hx e1 HG
      go_wp2_with fail
      go_roundw
      case rel => exact ⟨k + 1, by omega, by rw [HE.out]; go_num, by go_num, by trivial⟩
      case measure => simp [intOf]; omega
    · obtain rfl : k = l.length := by omega
      have HG1 := Lib.hid (HG.out w)
      clear HG
      go_wp2_with fail
      refine HG1.out.mono ?_
      clear HG1
      rintro e w1 ⟨v1, rfl, hown1, hb1⟩
      go_wp2_with fail
      go_loopw [6, 8, 27] (fun v f i wr => ∃ (k : Nat), k ≤ l.length ∧ i = .int .i64 k ∧ Hid (OB w.heap.size wr v (catL l k)) ∧ Below w.heap.size w wr) (fun _ _ i _ => l.length - (intOf i).toNat)
      case atStart => exact ⟨0, Nat.zero_le _, rfl, hown1, hb1⟩
      case round =>
        clear hown1 hb1
        obtain ⟨k, hk, rfl, HO, hbr⟩ := hrel
        by_cases h2 : k < l.length
        · obtain ⟨x, hx⟩ : ∃ x, l[k]? = some x := ⟨_, List.getElem?_eq_getElem h2⟩
          obtain ⟨g, o, rfl, hr⟩ := (HT.out.below hbr).row (by omega)
          have c1 := hr k x hx
          have k1 : (k : Int) < (l.length : Int) := by omega
          have hn := catL_next hx
          have hle := HLE.out (k + 1)
          have hmem := List.mem_of_getElem? hx
          have hcx := HT.out.caps x hmem
          have HX := Lib.hid (⟨(HT.out.bytes x hmem).below hbr, hcx.1, hcx.2.1, HN.out x hmem⟩ : SlAt wr x.A x.c x.b)
          rw [hn, List.length_append] at hle
          have HNX := Lib.hid hn
          have hlen : (catL l k).length + x.b.length ≤ 1000000 := by omega
          have hsz := hbr.size
          clear hr hx hn hle hcx
          go_wp2_with (at_builtin; refine wpList_appB rfl _ _ rfl rfl HO.out rfl HX.out hlen hsz ?_; intro v2 w2 hown2 hgrow2)
          have hb2 := below_app hbr HO.out hgrow2 (Nat.le_refl _) hsz
          rw [← HNX.out] at hown2
          go_wp2_with fail
          go_roundw
          case rel => exact ⟨k + 1, by omega, by go_num, hown2, hb2⟩
          case measure => simp [intOf]; omega
        · obtain rfl : k = l.length := by omega
          go_wp2_with fail
          go_ret
          exact ⟨_, rfl, HO.out, hbr⟩

/-- Three rows of bytes. -/
theorem brow3 {w w1 : World} {x y z : BX} {t : TypeId} (hx : SlAt w x.A x.c x.b) (hy : SlAt w y.A y.c y.b) (hz : SlAt w z.A z.c z.b) (lx : x.b.length ≤ reachBytes) (ly : y.b.length ≤ reachBytes) (lz : z.b.length ≤ reachBytes)
    (hw : w.alloc (.cells #[x.v, y.v, z.v] t) = w1) : BRowAt w1 (some ⟨w.heap.size, 0, none⟩) 3 [x, y, z] := by
  have hb : Below w.heap.size w w1 := by rw [← hw]; exact (Below.refl _ _).alloc (Nat.le_refl _) _
  have hg := heap_alloc_new w (.cells #[x.v, y.v, z.v] t)
  rw [hw] at hg
  refine brow_new (xs := [x.v, y.v, z.v]) [x, y, z] hg rfl (fun u hu => ?_) (fun u hu => ?_) (by decide : (3 : Nat) ≤ maxLen)
  · simp only [List.mem_cons, List.mem_nil_iff, or_false] at hu
    rcases hu with rfl | rfl | rfl
    · exact hx.bytes.below hb
    · exact hy.bytes.below hb
    · exact hz.bytes.below hb
  · simp only [List.mem_cons, List.mem_nil_iff, or_false] at hu
    rcases hu with rfl | rfl | rfl
    · exact ⟨hx.cap, hx.capm, lx⟩
    · exact ⟨hy.cap, hy.capm, ly⟩
    · exact ⟨hz.cap, hz.capm, lz⟩
theorem brow2 {w w1 : World} {x y : BX} {t : TypeId} (hx : SlAt w x.A x.c x.b) (hy : SlAt w y.A y.c y.b) (lx : x.b.length ≤ reachBytes) (ly : y.b.length ≤ reachBytes)
    (hw : w.alloc (.cells #[x.v, y.v] t) = w1) : BRowAt w1 (some ⟨w.heap.size, 0, none⟩) 2 [x, y] := by
  have hb : Below w.heap.size w w1 := by rw [← hw]; exact (Below.refl _ _).alloc (Nat.le_refl _) _
  have hg := heap_alloc_new w (.cells #[x.v, y.v] t)
  rw [hw] at hg
  refine brow_new (xs := [x.v, y.v]) [x, y] hg rfl (fun u hu => ?_) (fun u hu => ?_) (by decide : (2 : Nat) ≤ maxLen)
  · simp only [List.mem_cons, List.mem_nil_iff, or_false] at hu
    rcases hu with rfl | rfl
    · exact hx.bytes.below hb
    · exact hy.bytes.below hb
  · simp only [List.mem_cons, List.mem_nil_iff, or_false] at hu
    rcases hu with rfl | rfl
    · exact ⟨hx.cap, hx.capm, lx⟩
    · exact ⟨hy.cap, hy.capm, ly⟩
/-- crc.Sum of two pieces that a call lays. -/
theorem sum2_at {w : World} {x y : BX} (hx : SlAt w x.A x.c x.b) (hy : SlAt w y.A y.c y.b) (lx : x.b.length ≤ reachBytes) (ly : y.b.length ≤ reachBytes) :
    Calls Try.prog 83 #[.slice (some ⟨w.heap.size, 0, none⟩) 2 2] (w.alloc (.cells #[.slice x.A x.b.length x.c, .slice y.A y.b.length y.c] 29)) fun e w' => e = .returned (.int .u32 (sumN [x.b, y.b] : Int)) ∧ Below w.heap.size w w' := by
  have hrow := brow2 (t := 29) hx hy lx ly rfl
  have hb : Below w.heap.size w (w.alloc (.cells #[.slice x.A x.b.length x.c, .slice y.A y.b.length y.c] 29)) := (Below.refl _ _).alloc (Nat.le_refl _) _
  refine (sum_ok _ _ _ _ hrow).mono ?_
  rintro e w' ⟨rfl, hq⟩
  exact ⟨rfl, hb.trans (hq.mono hb.size)⟩

set_option maxHeartbeats 4000000 in
theorem encode_any (b : Bs) (A : Option Addr) (c : Nat) (w : World) (h : SlAt w A c b) (hl : b.length ≤ 65536) :
    Calls Try.prog 69 #[.slice A b.length c] w fun e w' => ∃ v, e = .returned (.tuple #[v, .int .i64 0]) ∧ OB w.heap.size w' v (encF b) ∧ Below w.heap.size w w' := by
  have HT := Lib.hid h; clear h
  have HN1 := Lib.hid (num_any b.length 4 (by omega) (by omega) (by omega) w)
  have wl : IntKind.u64.wrap (b.length : Int) = (b.length : Int) := IntWalk.u64_in _ (by omega)
  have q1 : ((65536 : Int) < (b.length : Int)) = False := eq_false (by omega)
  go_enter Try.func69, Try.ntmps69
  go_wp2_with fail
  refine HN1.out.mono ?_
  clear HN1
  rintro e w1 ⟨v1, rfl, ho1, hb1⟩
  obtain ⟨A1, c1, rfl, hs1, _⟩ := ho1.sl
  have hT1 := HT.out.below hb1
  have HSU := Lib.hid (sum2_at (x := ⟨A1, c1, beN 4 b.length⟩) (y := ⟨A, c, b⟩) hs1 hT1 (by unfold reachBytes; simp only [beN_length]; omega) (by unfold reachBytes; show b.length ≤ _; omega))
  have HS1 := Lib.hid hs1
  clear hs1 hT1 ho1
  have hlt := sum_lt32 [beN 4 b.length, b]
  have HNS := Lib.hid (fun W => num_any (sumN [beN 4 b.length, b]) 4 (by omega) (by omega) (by omega) W)
  have wsm : IntKind.u64.wrap (sumN [beN 4 b.length, b] : Int) = (sumN [beN 4 b.length, b] : Int) := IntWalk.u64_in _ (by omega)
  have hS : sumF b = beN 4 (sumN [beN 4 b.length, b]) := rfl
  have hE : encF b = beN 4 b.length ++ (sumF b ++ b) := rfl
  rw [hS] at hE
  generalize hsn : sumN [beN 4 b.length, b] = SN at *
  have HE := Lib.hid hE
  clear hlt hS hsn hE
  go_wp2_with fail
  refine HSU.out.mono ?_
  rintro e w2 ⟨rfl, hb2⟩
  clear HSU
  go_wp2_with fail
  refine (HNS.out w2).mono ?_
  clear HNS
  rintro e w3 ⟨v3, rfl, ho3, hb3⟩
  obtain ⟨A3, c3, rfl, hs3, _⟩ := ho3.sl
  clear ho3
  have hb02 := hb1.trans (hb2.mono hb1.size)
  have hb03 := hb02.trans (hb3.mono hb02.size)
  have hs1 := (HS1.out.below hb2).below hb3
  have hT3 := HT.out.below hb03
  have l1 := beN_length 4 b.length
  have l3 := beN_length 4 SN
  have hrow := brow3 (x := ⟨A1, c1, beN 4 b.length⟩) (y := ⟨A3, c3, beN 4 SN⟩) (z := ⟨A, c, b⟩) (t := 29) hs1 hs3 hT3 (by unfold reachBytes; show (beN 4 b.length).length ≤ _; omega) (by unfold reachBytes; show (beN 4 SN).length ≤ _; omega) (by unfold reachBytes; show b.length ≤ _; omega) rfl
  have hfl : (([⟨A1, c1, beN 4 b.length⟩, ⟨A3, c3, beN 4 SN⟩, ⟨A, c, b⟩] : List BX).map BX.b).flatten = encF b := by rw [HE.out]; simp
  have hel := encF_length b
  have HCC := Lib.hid (concat_any _ _ _ _ hrow (fun u hu => by
    simp only [List.mem_cons, List.mem_nil_iff, or_false] at hu
    rcases hu with rfl | rfl | rfl
    · exact hs1.nil
    · exact hs3.nil
    · exact hT3.nil) (by rw [hfl]; omega) (by rw [hfl]; omega))
  rw [hfl] at HCC
  have HB3 := Lib.hid hb03
  clear hfl hrow hs1 hs3 hT3 hb1 hb2 hb3 hb02 hb03 HS1 HT HE l1 l3
  go_wp2_with fail
  refine HCC.out.mono ?_
  rintro e w4 ⟨v4, rfl, ho4, hb4⟩
  have hb5 := ((Below.refl _ w3).alloc (Nat.le_refl _) (.cells #[.slice A1 (beN 4 b.length).length c1, .slice A3 (beN 4 SN).length c3, .slice A b.length c] 29)).trans (hb4.mono (by simp))
  have hb6 := HB3.out.trans (hb5.mono HB3.out.size)
  go_wp2_with fail
  go_ret2
  exact ⟨_, rfl, ho4.mono (by have := HB3.out.size; simp; omega), hb6⟩

end Go.Proofs.Ytojkifcclgecoaa
