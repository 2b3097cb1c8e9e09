/-
  journal.decode: the number and the rest of the frame that bytes begin with. · journal.newest, journal.records, journal.encode. · journal.records.
-/
import Derived.Test.YtojkifcclgecoaaJnPlain
import Derived.Test.YtojkifcclgecoaaFrNext
import Derived.Test.YtojkifcclgecoaaFrRef
import Derived.Deep.QuietTactic
import Derived.BigQuiet
import Derived.Handy
namespace Go.Proofs.Ytojkifcclgecoaa
open Go Go.RowKit Go.Shelf Go.Proofs

/-- Bytes that are new, in a block of bytes. -/
structure SlF (n : Nat) (w : World) (A : Option Addr) (c : Nat) (b : Bs) : Prop where
  sl : SlAt w A c b
  new : NewA n A
  own : 0 < b.length → ∃ g o cur, A = some ⟨g, o, Option.none⟩ ∧ w.heap[g]? = some (.cells cur 5 (0, 0))
theorem SlF.empty (n : Nat) (w : World) : SlF n w none 0 [] := ⟨SlAt.none w, NewA.none n, fun h => absurd h (by simp)⟩
theorem SlF.keep {n : Nat} {w w' : World} {A : Option Addr} {c : Nat} {b : Bs} (h : SlF n w A c b) (hk : ∀ (g : Nat) (cur : Array Value), n ≤ g → w.heap[g]? = some (Obj.cells cur 5 (0, 0)) → w'.heap[g]? = w.heap[g]?) : SlF n w' A c b := by
  refine ⟨⟨fun hn => ?_, h.sl.cap, h.sl.capm, h.sl.nil⟩, h.new, fun hn => ?_⟩
  · obtain ⟨g, o, cur, rfl, hh⟩ := h.own hn
    have hs := hk g cur (h.new _ rfl) hh
    obtain ⟨g', o', e, hc⟩ := h.sl.bytes hn
    cases e
    exact ⟨g, o, rfl, fun i hi => (World.cell?_of_block (a := ⟨g, o + i, none⟩) hs).trans (hc i hi)⟩
  · obtain ⟨g, o, cur, rfl, hh⟩ := h.own hn
    exact ⟨g, o, cur, rfl, (hk g cur (h.new _ rfl) hh).trans hh⟩
theorem SlF.below {n : Nat} {w w' : World} {A : Option Addr} {c : Nat} {b : Bs} (h : SlF n w A c b) (hb : Below w.heap.size w w') : SlF n w' A c b := h.keep fun g _ _ hh => hb.block g (Array.getElem?_eq_some_iff.1 hh).1
theorem SlF.mono {n m : Nat} {w : World} {A : Option Addr} {c : Nat} {b : Bs} (h : SlF n w A c b) (hm : m ≤ n) : SlF m w A c b := ⟨h.sl, h.new.mono hm, h.own⟩
def DecPost (b : Bs) (w : World) (e : Ending) (w' : World) : Prop :=
  Below w.heap.size w w' ∧ ((∃ q r A' c', numb b = some (q, r) ∧ e = .returned (.tuple #[.int .u64 (q : Nat), .slice A' r.length c', .int .i64 ((16 + r.length : Nat) : Int)]) ∧ SlF w.heap.size w' A' c' r) ∨
    (numb b = none ∧ e = .returned (.tuple #[.int .u64 0, .slice none 0 0, .int .i64 0])))

set_option maxRecDepth 100000 in
set_option maxHeartbeats 4000000 in
theorem decode_any (A : Option Addr) (c : Nat) (b : Bs) (w : World) (hs : SlAt w A c b) (hl : b.length ≤ 100000) :
    Calls Try.prog 67 #[.slice A b.length c] w (DecPost b w) := by
  have HN := Lib.hid (next_at A c b w hs hl)
  clear hs
  go_enter Try.func67, Try.ntmps67
  go_wp2_with fail
  refine HN.out.mono ?_
  rintro e w1 ⟨A', c', x, n, rfl, hna, ho, hx, hb⟩
  clear HN
  by_cases h8 : 8 ≤ x.length
  · obtain ⟨hx1, rfl⟩ : nextF b = some x ∧ n = 8 + x.length := by
      rcases hx with h | ⟨_, rfl, _⟩
      · exact h
      · simp at h8
    have hnb := numb_of hx1 h8
    obtain ⟨g, cur, rfl, hcur⟩ := ho.own (by omega)
    have hcap := ho.sl.cap
    have hcm := ho.sl.c63
    have q0 : ((x.length : Int) < 8) = False := eq_false (by omega)
    have q1 : (8 : Int) ≤ (c' : Int) := by omega
    have t8 : (x.take 8).length = 8 := by rw [List.length_take]; omega
    have HG := Lib.hid (fun W (hW : Below w1.heap.size w1 W) => get_any (x.take 8) (some ⟨g, 0, none⟩) c' W ⟨(ho.sl.bytes.front 8).below hW, by omega, ho.sl.capm, fun e => by cases e⟩ (by omega) (by omega))
    rw [t8] at HG
    obtain ⟨o', hO, hb8⟩ := bytes_sub (l := 8) ho.sl.bytes h8 hcap
    have hR : (if c' = 8 then (some ⟨g, 0, none⟩ : Option Addr) else some ⟨g, 8, none⟩) = some ⟨g, o', none⟩ := by
      have := hO
      unfold subA at this
      simpa using this
    have tl : (x.drop 8).length = x.length - 8 := by rw [List.length_drop]
    have HX := Lib.hid (show SlF w.heap.size w1 (some ⟨g, o', none⟩) (c' - 8) (x.drop 8) from ⟨⟨hb8, by rw [tl]; omega, by have := ho.sl.capm; omega, fun e => by cases e⟩, fun a e => (by cases e; exact hna ⟨g, 0, none⟩ rfl), fun _ => ⟨g, o', cur, rfl, hcur⟩⟩)
    have HNB := Lib.hid hnb
    have HB := Lib.hid hb
    have HTL := Lib.hid tl
    clear hO hb8 tl hnb hb hx hx1 t8 ho hna hcur
    go_wp2_with fail
    go_quiet ((go_at_call 82; exact Calls.quiet_of_same (HG.out _ (fr_drewN (Below.refl _ _) _))))
    go_wp2_with fail
    go_ret3
    have e1 : ((16 + (x.drop 8).length : Nat) : Int) = 8 + (x.length : Int) := by rw [HTL.out]; omega
    refine ⟨fr_drewN HB.out _, .inl ⟨_, _, some ⟨g, o', none⟩, c' - 8, HNB.out, ?_, HX.out.below (fr_drewN (Below.refl _ _) _)⟩⟩
    rw [e1, HTL.out]; rfl
  · have hnb : numb b = none := by
      rcases hx with ⟨hx, _⟩ | ⟨hx, _, _⟩
      · exact numb_short hx (by omega)
      · exact numb_none hx
    have q0 : ((x.length : Int) < 8) = True := eq_true (by omega)
    have HNB := Lib.hid hnb
    have HB := Lib.hid hb
    clear hnb hb hx ho hna
    go_wp2_with fail
    go_ret3
    exact ⟨HB.out, .inr ⟨HNB.out, rfl⟩⟩
end Go.Proofs.Ytojkifcclgecoaa
namespace Go.Proofs.Ytojkifcclgecoaa
open Go Go.RowKit Go.Shelf Go.Proofs

def NewPost (l : List Bs) (w : World) (e : Ending) (w' : World) : Prop :=
  ∃ A' c', e = .returned (.tuple #[.int .u64 (seqO (newL l) : Nat), .slice A' (staO (newL l)).length c']) ∧ SlF w.heap.size w' A' c' (staO (newL l)) ∧ Below w.heap.size w w'

set_option maxRecDepth 100000 in
set_option maxHeartbeats 4000000 in
theorem newest_any (l : List BX) (A : Option Addr) (c : Nat) (w : World) (h : BRowAt w A c l) (hnil : ∀ x ∈ l, x.A = none → x.c = 0) (hlen : ∀ x ∈ l, x.b.length ≤ 100000) (hl : l.length ≤ 100) :
    Calls Try.prog 38 #[.slice A l.length c] w (NewPost (l.map BX.b) w) := by
  have R0 := Lib.hid (fun (W : World) (hW : Below w.heap.size w W) (i : Nat) (hi : i < l.length) => show ∃ g o x, A = some ⟨g, o, none⟩ ∧ l[i]? = some x ∧ W.cell? ⟨g, o + i, none⟩ = some (.slice x.A x.b.length x.c) ∧ SlAt W x.A x.c x.b ∧ x.b.length ≤ 100000 from by
    obtain ⟨x, hx⟩ : ∃ x, l[i]? = some x := ⟨_, List.getElem?_eq_getElem hi⟩
    obtain ⟨g, o, e, hc⟩ := h.row (by omega)
    have hm := List.mem_of_getElem? hx
    have hcw := hc i x hx
    exact ⟨g, o, x, e, hx, (hW.cell (p := ⟨g, o + i, none⟩) (World.block_lt_of_cell? w (a := ⟨g, o + i, none⟩) hcw)).trans hcw, (show SlAt w x.A x.c x.b from ⟨h.bytes x hm, (h.caps x hm).1, (h.caps x hm).2.1, hnil x hm⟩).below hW, hlen x hm⟩)
  have hcm := h.capm
  have hcm : c ≤ 9223372036854775807 := by unfold maxLen at hcm; omega
  have hcp := h.cap
  clear h hnil hlen
  go_enter Try.func38, Try.ntmps38
  go_wp2_with fail
  go_loopw [4, 5, 6, 14] (fun sq st fd i wr => ∃ (k : Nat) (o : Option (Nat × Bs)) (As : Option Addr) (cs : Nat), k ≤ l.length ∧ i = .int .i64 k ∧ Hid (newL ((l.map BX.b).take k) = o) ∧ sq = .int .u64 (seqO o : Nat) ∧ st = .slice As (staO o).length cs ∧ fd = .bool o.isSome ∧ Hid (SlF w.heap.size wr As cs (staO o)) ∧ Hid (Below w.heap.size w wr)) (fun _ _ _ i _ => l.length - (intOf i).toNat)
  case atStart => exact ⟨0, none, none, 0, Nat.zero_le _, rfl, rfl, rfl, rfl, rfl, SlF.empty _ _, Below.refl _ _⟩
  case round =>
    obtain ⟨k, o, As, cs, hk, rfl, HO, rfl, rfl, rfl, HS, HB⟩ := hrel
    by_cases h1 : k < l.length
    · obtain ⟨g, oo, x, rfl, hx, c1, hsx, hxl⟩ := R0.out wr HB.out k h1
      have k1 : (k : Int) < (l.length : Int) := by omega
      have k2 : (k : Int) < (c : Int) := by omega
      have HD := Lib.hid (decode_any x.A x.c x.b wr hsx hxl)
      have HSN := Lib.hid (show newL ((l.map BX.b).take (k + 1)) = newStep o x.b by rw [newL_snoc (x := x.b) (by rw [List.getElem?_map, hx]; rfl), HO.out])
      clear hsx hx
      obtain ⟨sq, hsq⟩ : ∃ sq, seqO o = sq := ⟨_, rfl⟩
      obtain ⟨sl, hsl⟩ : ∃ sl, (staO o).length = sl := ⟨_, rfl⟩
      obtain ⟨fd, hfd⟩ : ∃ fd, o.isSome = fd := ⟨_, rfl⟩
      rw [hsq, hsl, hfd]
      have HSQ := Lib.hid hsq
      have HSL := Lib.hid hsl
      have HFD := Lib.hid hfd
      clear hsq hsl hfd
      go_wp2_with fail
      refine HD.out.mono ?_
      clear HD
      rintro e w1 ⟨hb1, hcase⟩
      have HB1 := Lib.hid hb1
      have HB2 := Lib.hid (HB.out.trans (hb1.mono HB.out.size))
      clear hb1
      rcases hcase with ⟨q, r, A', c', hn, rfl, hsf⟩ | ⟨hn, rfl⟩
      · have HS2 := Lib.hid (hsf.mono HB.out.size)
        have hq0 : ((0 : Int) < ((16 + r.length : Nat) : Int)) = True := eq_true (by omega)
        have HNN := Lib.hid hn
        clear hsf hn
        cases o with
        | none =>
          obtain rfl : false = fd := HFD.out
          have HNN2 := Lib.hid (show newStep none x.b = some (q, r) from newStep_first HNN.out)
          clear HNN
          go_wp2_with fail
          go_roundw
          case rel => exact ⟨k + 1, some (q, r), A', c', by omega, by go_num, HSN.out.trans HNN2.out, rfl, rfl, rfl, HS2.out, HB2.out⟩
          case measure => simp [intOf]; omega
        | some y =>
          obtain rfl : true = fd := HFD.out
          obtain ⟨yn, yb⟩ := y
          obtain rfl : yn = sq := HSQ.out
          obtain rfl : yb.length = sl := HSL.out
          by_cases hy : yn < q
          · have HNN2 := Lib.hid (show newStep (some (yn, yb)) x.b = some (q, r) from (newStep_more HNN.out _).trans (if_pos hy))
            have hy2 : ((yn : Int) < (q : Int)) = True := eq_true (by omega)
            clear HNN hy
            go_wp2_with fail
            go_roundw
            case rel => exact ⟨k + 1, some (q, r), A', c', by omega, by go_num, HSN.out.trans HNN2.out, rfl, rfl, rfl, HS2.out, HB2.out⟩
            case measure => simp [intOf]; omega
          · have HNN2 := Lib.hid (show newStep (some (yn, yb)) x.b = some (yn, yb) from (newStep_more HNN.out _).trans (if_neg hy))
            have hy2 : ((yn : Int) < (q : Int)) = False := eq_false (by omega)
            have HS3 := Lib.hid (HS.out.below HB1.out)
            clear HNN hy
            go_wp2_with fail
            go_roundw
            case rel => exact ⟨k + 1, some (yn, yb), As, cs, by omega, by go_num, HSN.out.trans HNN2.out, rfl, rfl, rfl, HS3.out, HB2.out⟩
            case measure => simp [intOf]; omega
      · have HNN := Lib.hid (show newStep o x.b = o from newStep_none hn o)
        have HS3 := Lib.hid (HS.out.below HB1.out)
        clear hn
        go_wp2_with fail
        go_roundw
        case rel => exact ⟨k + 1, o, As, cs, by omega, by go_num, HSN.out.trans HNN.out, by rw [HSQ.out], by rw [HSL.out], by rw [HFD.out], HS3.out, HB2.out⟩
        case measure => simp [intOf]; omega
    · obtain rfl : k = l.length := by omega
      have hO := HO.out
      rw [show (l.map BX.b).take l.length = l.map BX.b from List.take_of_length_le (by rw [List.length_map]; exact Nat.le_refl _)] at hO
      have HO' := Lib.hid hO
      clear hO HO
      go_wp2_with fail
      go_ret2
      exact ⟨As, cs, by rw [HO'.out]; rfl, by rw [HO'.out]; exact HS.out, HB.out⟩

/-- The frame of a number and bytes. -/
def EncPost (q : Nat) (b : Bs) (w : World) (e : Ending) (w' : World) : Prop := ∃ v, e = .returned (.tuple #[v, .int .i64 0]) ∧ OB w.heap.size w' v (numbF q b) ∧ Below w.heap.size w w'
set_option maxHeartbeats 4000000 in
theorem jencode_any (q : Nat) (hq : q < 2 ^ 64) (b : Bs) (A : Option Addr) (c : Nat) (w : World) (h : SlAt w A c b) (hl : b.length ≤ 65528) :
    Calls Try.prog 42 #[.int .u64 q, .slice A b.length c] w (EncPost q b w) := by
  have HT := Lib.hid h; clear h
  have HN1 := Lib.hid (num_any q 8 (by omega) (by omega) (by omega) w)
  have q1 : ((65528 : Int) < (b.length : Int)) = False := eq_false (by omega)
  go_enter Try.func42, Try.ntmps42
  go_wp2_with fail
  refine HN1.out.mono ?_
  clear HN1
  rintro e w1 ⟨v1, rfl, ho1, hb1⟩
  obtain ⟨A1, c1, rfl, hs1, _⟩ := ho1.sl
  have hT1 := HT.out.below hb1
  have l1 := beN_length 8 q
  have hrow := brow2 (x := ⟨A1, c1, beN 8 q⟩) (y := ⟨A, c, b⟩) (t := 29) hs1 hT1 (by unfold reachBytes; show (beN 8 q).length ≤ _; omega) (by unfold reachBytes; show b.length ≤ _; omega) rfl
  have hfl : (([⟨A1, c1, beN 8 q⟩, ⟨A, c, b⟩] : List BX).map BX.b).flatten = beN 8 q ++ b := by simp
  have HCC := Lib.hid (concat_any _ _ _ _ hrow (fun u hu => by
    simp only [List.mem_cons, List.mem_nil_iff, or_false] at hu
    rcases hu with rfl | rfl
    · exact hs1.nil
    · exact hT1.nil) (by rw [hfl, List.length_append]; omega) (by rw [hfl, List.length_append]; omega))
  rw [hfl] at HCC
  have HB1 := Lib.hid hb1
  clear hfl hrow hs1 hT1 hb1 HT ho1
  clear l1
  go_wp2_with fail
  refine HCC.out.mono ?_
  clear HCC
  rintro e w2 ⟨v2, rfl, ho2, hb2⟩
  have hb3 := ((Below.refl _ w1).alloc (Nat.le_refl _) (.cells #[.slice A1 (beN 8 q).length c1, .slice A b.length c] 29)).trans (hb2.mono (by simp))
  obtain ⟨A2, c2, rfl, hs2, _⟩ := ho2.sl
  have HE := Lib.hid (encode_any (beN 8 q ++ b) A2 c2 w2 hs2 (by rw [List.length_append, beN_length]; omega))
  have HB2 := Lib.hid (HB1.out.trans (hb3.mono HB1.out.size))
  clear ho2 hb2 hb3 hs2 HB1
  rw [List.length_append] at HE
  go_wp2_with fail
  refine HE.out.mono ?_
  rintro e w3 ⟨v3, rfl, ho3, hb3⟩
  go_wp2_with fail
  go_ret2
  exact ⟨_, rfl, ho3.mono HB2.out.size, HB2.out.trans (hb3.mono HB2.out.size)⟩

/-- Rows of new bytes. -/
structure RowsF (n : Nat) (W : World) (v : Value) (l : List BX) : Prop where
  own : W.ownsRow n 29 1 v l.length (l.map BX.v)
  bod : ∀ x ∈ l, SlF n W x.A x.c x.b ∧ x.b.length ≤ 1000000
theorem RowsF.nil (n : Nat) (W : World) : RowsF n W (.slice none 0 0) [] := ⟨World.ownsRow_nil _ _ _ _, fun x hx => by cases hx⟩
theorem RowsF.below {n : Nat} {W W' : World} {v : Value} {l : List BX} (h : RowsF n W v l) (hb : Below W.heap.size W W') : RowsF n W' v l :=
  ⟨World.ownsRow.kept (row := none) h.own ⟨hb.os, hb.tape, hb.output, hb.size, fun k hk _ => hb.block k hk⟩ (by cases (Value.ownBlock v) <;> simp), fun x hx => ⟨(h.bod x hx).1.below hb, (h.bod x hx).2⟩⟩
theorem RowsF.lower {n m : Nat} {W : World} {v : Value} {l : List BX} (h : RowsF n W v l) (hb : m ≤ n) : RowsF m W v l := by
  refine ⟨⟨h.own.1, ?_⟩, fun x hx => ⟨(h.bod x hx).1.mono hb, (h.bod x hx).2⟩⟩
  rcases h.own.2 with h2 | ⟨g, cap, cur, h1, h2, h3⟩
  · exact .inl h2
  · exact .inr ⟨g, cap, cur, h1, by omega, h3⟩
theorem RowsF.slice {n : Nat} {W : World} {v : Value} {l : List BX} (h : RowsF n W v l) : ∃ A c, v = .slice A l.length c ∧ BRowAt W A c l ∧ NewA n A := by
  have hl : ∀ x ∈ l, x.b.length ≤ x.c ∧ x.c ≤ maxLen ∧ x.b.length ≤ reachBytes := fun x hx => by
    have h1 := h.bod x hx
    exact ⟨h1.1.sl.cap, h1.1.sl.capm, by unfold reachBytes; omega⟩
  rcases h.own.2 with ⟨rfl, hn⟩ | ⟨g, cap, cur, rfl, hng, hg, hnc, hcm, _⟩
  · obtain rfl := List.eq_nil_of_length_eq_zero hn
    exact ⟨none, 0, rfl, BRowAt.nil _ _ _ (Nat.zero_le _), NewA.none _⟩
  · refine ⟨_, _, rfl, ⟨hnc, hcm, fun _ => ⟨g, 0, rfl, fun i x hi => ?_⟩, fun x hx => (h.bod x hx).1.sl.bytes, hl⟩, fun a e => by cases e; exact hng⟩
    have h1 := World.ownsRow.cells h.own (g := g) rfl i x.v (by rw [List.getElem?_map, hi]; rfl)
    rw [Go.WideShapes.add_plain] at h1
    exact h1
theorem RowsF.nils {n : Nat} {W : World} {v : Value} {l : List BX} (h : RowsF n W v l) : ∀ x ∈ l, x.A = none → x.c = 0 := fun x hx => (h.bod x hx).1.sl.nil
theorem wpList_appF {n : Nat} {w : World} {v : Value} {l : List BX} {ops : Array Oper} {rest : List Oper} {o : Oper} {a : Act} {Q : Exit → Act → World → Prop} (hgd : o.guard = none) (s x : Operand)
    (ho : o.op = .call { callee := .builtin .append, args := #[s, x], argTypes := #[30, 30] }) (hs : a.eval s = v) (hr : RowsF n w v l) (y : BX) (hy : SlF n w y.A y.c y.b) (hyl : y.b.length ≤ 1000000)
    (g : Nat) (hx : a.eval x = .slice (some ⟨g, 0, none⟩) 1 1) (hcell : w.cell? ⟨g, 0, none⟩ = some y.v) (hlen : l.length ≤ 1000000) (hbase : n ≤ w.heap.size)
    (h : ∀ v' w', RowsF n w' v' (l ++ [y]) → w.grownBy w' v.ownBlock → wpList Try.prog ops Q rest (a.put o.dst v') w') : wpList Try.prog ops Q (o :: rest) a w := by
  obtain ⟨i0, hi, hz0, hz1, hz2⟩ := info_parts fr_bytes_info
  refine wpList_append_own w hgd s x 30 ho n 29 i0 (.slice none 0 0) 1 24 Try.underlying30 hi hz0 hz1 hz2 rfl (by decide) v l.length (l.map BX.v) hs hr.own ⟨g, 0, none⟩ 1 1 [y.v] hx rfl
    (fun j u hu => by
      have hj : j = 0 := by
        have := (List.getElem?_eq_some_iff.1 hu).1
        simp at this; omega
      subst hj
      obtain rfl : y.v = u := by simpa using hu
      rw [Go.WideShapes.add_plain]; exact hcell) (fun u hu => by rw [List.mem_singleton] at hu; subst hu; rfl) (by unfold maxLen; omega) (by omega) hbase fun v' w' h1 h2 _ => h v' w' ⟨?_, ?_⟩ h2
  · rw [List.length_append, List.map_append]; exact h1
  · have hk : ∀ (g : Nat) (cur : Array Value), n ≤ g → w.heap[g]? = some (Obj.cells cur 5 (0, 0)) → w'.heap[g]? = w.heap[g]? := fun g' cur _ hh => h2.block g' (Array.getElem?_eq_some_iff.1 hh).1 (fun e => by
      rcases hr.own.2 with ⟨rfl, _⟩ | ⟨g2, cap, cur2, rfl, _, hg2, _⟩
      · simp [Value.ownBlock] at e
      · obtain rfl : g' = g2 := by simpa [Value.ownBlock] using e
        rw [hh] at hg2
        simp at hg2)
    intro z hz
    rcases List.mem_append.1 hz with hz | hz
    · exact ⟨(hr.bod z hz).1.keep hk, (hr.bod z hz).2⟩
    · rw [List.mem_singleton] at hz; subst hz; exact ⟨hy.keep hk, hyl⟩
theorem RowsF.grown {n : Nat} {w w' : World} {v : Value} {l : List BX} (h : RowsF n w v l) (hg : w.grownBy w' v.ownBlock) {m : Nat} {W : World} (hb : Below m W w) (hm : m ≤ n) (hs : m ≤ w.heap.size) : Below m W w' := hb.grown hg hs (fun k e => Nat.le_trans hm (World.ownsRow.lt h.own k e).1)
end Go.Proofs.Ytojkifcclgecoaa
namespace Go.Proofs.Ytojkifcclgecoaa
open Go Go.RowKit Go.Shelf Go.Proofs

def RecPost (q : Nat) (b : Bs) (w : World) (e : Ending) (w' : World) : Prop := ∃ v rows, e = .returned (.tuple #[v, .int .i64 (lenR (recL q b) : Nat)]) ∧ RowsF w.heap.size w' v rows ∧ rows.map BX.b = recL q b ∧ Below w.heap.size w w'
/-- A slice that is cut at the front. -/
theorem sl_drop {w : World} {A : Option Addr} {c : Nat} {b : Bs} (h : SlAt w A c b) (hA : A = none ∨ ∃ g o, A = some ⟨g, o, none⟩) {l : Nat} (hl : l ≤ b.length) : SlAt w (subA A c l) (c - l) (b.drop l) ∧ (subA A c l = none ∨ ∃ g o, subA A c l = some ⟨g, o, none⟩) := by
  have hc := h.cap
  have hcm := h.capm
  rcases hA with rfl | ⟨g, o, rfl⟩
  · have h0 := h.nil rfl
    have e : subA none c l = none := by unfold subA; split <;> rfl
    have hb : b.drop l = [] := List.eq_nil_of_length_eq_zero (by rw [List.length_drop]; omega)
    rw [e, hb]
    exact ⟨⟨BytesAt.nil _ _, Nat.zero_le _, by omega, fun _ => by omega⟩, .inl rfl⟩
  · obtain ⟨o', e, hb⟩ := bytes_sub h.bytes hl hc
    rw [e]
    exact ⟨⟨hb, by rw [List.length_drop]; omega, by omega, fun e => by cases e⟩, .inr ⟨g, o', rfl⟩⟩
theorem lenR_mem {l : List Bs} {x : Bs} (h : x ∈ l) : 16 + x.length ≤ lenR l := by
  induction l with
  | nil => cases h
  | cons y l ih =>
    rw [lenR_cons]
    rcases List.mem_cons.1 h with rfl | h
    · omega
    · have := ih h; omega

set_option maxRecDepth 100000 in
set_option maxHeartbeats 4000000 in
theorem records_nil (q : Nat) (w : World) :
    Calls Try.prog 39 #[.slice none 0 0, .int .u64 (q : Nat)] w (RecPost q [] w) := by
  have HN := Lib.hid (decode_any none 0 [] w (SlAt.none w) (by simp))
  go_enter Try.func39, Try.ntmps39
  go_wp2_with fail
  go_step3
  go_wp2_with fail
  go_step3
  go_wp2_with fail
  go_loopw [6, 7] (fun v i wr => v = .slice none 0 0 ∧ i = .int .i64 0 ∧ wr = w) (fun _ _ _ => 0)
  case atStart => exact ⟨rfl, rfl, rfl⟩
  case round =>
    obtain ⟨rfl, rfl, hw⟩ := hrel
    have hw := hw.symm
    subst hw
    go_wp2_with fail
    refine HN.out.mono ?_
    rintro e w1 ⟨hb, hcase⟩
    rcases hcase with ⟨q', r, A', c', hn, rfl, hsf⟩ | ⟨hn, rfl⟩
    · cases hn
    · go_wp2_with fail
      rw [Exit.noGoto_ret]
      go_returns
      exact ⟨_, [], rfl, RowsF.nil _ _, rfl, hb⟩

set_option maxRecDepth 100000 in
set_option maxHeartbeats 4000000 in
theorem records_any (A : Option Addr) (c : Nat) (b : Bs) (q : Nat) (w : World) (hs : SlAt w A c b) (hA : A = none ∨ ∃ g o, A = some ⟨g, o, none⟩) (hl : b.length ≤ 100000) :
    Calls Try.prog 39 #[.slice A b.length c, .int .u64 (q : Nat)] w (RecPost q b w) := by
  rcases hA with rfl | ⟨g, o, rfl⟩
  · obtain rfl := hs.nil rfl
    obtain rfl : b = [] := List.eq_nil_of_length_eq_zero (by have := hs.cap; omega)
    exact records_nil q w
  have hcap := hs.cap
  have hcm := hs.c63
  have HS := Lib.hid hs; clear hs
  have HCNT := Lib.hid (Nat.le_trans (lenR_count _) (lenR_le q b))
  have HTOT := Lib.hid (lenR_le q b)
  go_enter Try.func39, Try.ntmps39
  go_wp2_with fail
  go_step3
  go_wp2_with fail
  go_step3
  go_wp2_with fail
  go_loopw [6, 7] (fun v i wr => ∃ (k : Nat) (rows : List BX), k ≤ (recL q b).length ∧ i = .int .i64 (lenR ((recL q b).take k) : Nat) ∧ Hid (RowsF w.heap.size wr v rows) ∧ Hid (rows.map BX.b = (recL q b).take k) ∧ Hid (recL q (b.drop (lenR ((recL q b).take k))) = (recL q b).drop k) ∧ Below w.heap.size w wr) (fun _ i _ => b.length - (intOf i).toNat)
  case atStart => exact ⟨0, [], Nat.zero_le _, rfl, RowsF.nil _ _, rfl, rfl, Below.refl _ _⟩
  case round =>
    obtain ⟨k, rows, hk, rfl, HR, HV, HD, hbr⟩ := hrel
    have hle : lenR ((recL q b).take k) ≤ b.length := Nat.le_trans (lenR_take _ _) (lenR_le q b)
    have HSTEP := Lib.hid (fun r h => rec_step (q := q) (b := b) (r := r) (k := k) HD.out h)
    have HEND := Lib.hid (fun h => rec_end (q := q) (b := b) hk HD.out h)
    have HSN := Lib.hid (fun r (h : (recL q b)[k]? = some r) => lenR_snoc h)
    obtain ⟨T, hT⟩ : ∃ T, lenR ((recL q b).take k) = T := ⟨_, rfl⟩
    rw [hT] at hle HSTEP HEND HSN ⊢
    have HTT := Lib.hid hT
    clear hT
    have t0 : (0 : Int) ≤ (T : Int) := by omega
    have t1 : (T : Int) ≤ (b.length : Int) := by omega
    have t2 : (T : Int) ≤ (c : Int) := by omega
    obtain ⟨o', hO, hbR⟩ := bytes_sub (l := T) HS.out.bytes hle hcap
    have hR : (if c = T then (some ⟨g, o, none⟩ : Option Addr) else some ⟨g, o + T, none⟩) = some ⟨g, o', none⟩ := hO
    have hdl : (b.drop T).length = b.length - T := List.length_drop
    have HN := Lib.hid (decode_any (some ⟨g, o', none⟩) (c - T) (b.drop T) wr ⟨hbR.below hbr, by omega, by have := HS.out.capm; omega, fun e => by cases e⟩ (by omega))
    rw [hdl] at HN
    have HBR := Lib.hid hbr
    have hlr : rows.length ≤ 100000 := by
      have := congrArg List.length HV.out
      have := HCNT.out
      rw [List.length_map, List.length_take] at *
      omega
    clear hO hbR hdl hbr
    go_wp2_with fail
    refine HN.out.mono ?_
    clear HN
    rintro e w1 ⟨hb1, hcase⟩
    have HB1 := Lib.hid hb1
    have HBX := Lib.hid (HBR.out.trans (hb1.mono HBR.out.size))
    clear hb1
    rcases hcase with ⟨n, r, A', c', hn, rfl, hsf⟩ | ⟨hn, rfl⟩
    · have HSF := Lib.hid (hsf.mono HBR.out.size)
      have hrl := (numb_lt hn).2
      rw [List.length_drop] at hrl
      have hrl : 16 + r.length ≤ b.length - T := hrl
      have e0 : (((16 + r.length : Nat) : Int) == 0) = false := by rw [beq_eq_false_iff_ne]; omega
      have e9 : (((16 + r.length : Nat) : Int) = 0) = False := eq_false (by omega)
      clear hsf
      by_cases hnq : n = q
      · subst hnq
        obtain ⟨hx, hd2⟩ := HSTEP.out r hn
        have wT : IntKind.i64.wrap ((T : Int) + ((16 + r.length : Nat) : Int)) = (T : Int) + ((16 + r.length : Nat) : Int) := IntWalk.i64_in _ (by omega)
        have hkl := (List.getElem?_eq_some_iff.1 hx).1
        have HTN := Lib.hid (HSN.out r hx)
        have HD2 := Lib.hid hd2
        have HTK := Lib.hid (show (recL n b).take (k + 1) = (recL n b).take k ++ [r] by rw [List.take_add_one, hx]; rfl)
        have b1 : Below w1.heap.size w1 (w1.alloc (.cells #[.slice A' r.length c'] 29)) := (Below.refl _ w1).alloc (Nat.le_refl _) _
        have HRX := Lib.hid ((HR.out.below HB1.out).below b1)
        have HSY := Lib.hid (HSF.out.below b1)
        have HCY := Lib.hid ((Boxed.new w1 29 (.slice A' r.length c')).cell)
        have HBY := Lib.hid (HBX.out.trans (b1.mono HBX.out.size))
        have hszX := HBY.out.size
        clear HSTEP HEND HSN hn hx hd2 b1
        go_wp2_with (at_builtin; refine wpList_appF rfl _ _ rfl rfl HRX.out ⟨A', c', r⟩ HSY.out (by show r.length ≤ 1000000; omega) w1.heap.size rfl HCY.out (by omega) hszX ?_; intro v2 w2 hR2 hg2)
        have hb2 := HRX.out.grown hg2 HBY.out (Nat.le_refl _) hszX
        obtain ⟨A2, c2, rfl, hsl2, _⟩ := hR2.slice
        have HR2 := Lib.hid hR2
        clear hsl2 hR2 hg2
        go_wp2_with fail
        go_roundw
        case rel => exact ⟨k + 1, _, by omega, by rw [HTN.out]; go_num, HR2, by show _ = _; rw [List.map_append, HV.out, HTK.out]; rfl, by show _ = _; rw [HTN.out] at HD2 ⊢; exact HD2.out, hb2⟩
        case measure => simp [intOf]; omega
      · have HE := Lib.hid (HEND.out (fun r' e => hnq (by rw [hn] at e; cases e; rfl)))
        have e8 : ((n : Int) = (q : Int)) = False := eq_false (by omega)
        have e7 : ((n : Int) != (q : Int)) = true := by simp; omega
        clear HSTEP HEND HSN hn
        go_wp2_with fail
        rw [Exit.noGoto_ret]
        go_returns
        have hT := HTT.out
        have hV := HV.out
        rw [HE.out, List.take_length] at hT hV
        exact ⟨_, rows, by rw [← hT]; rfl, HR.out.below HB1.out, hV, HBX.out⟩
    · have HE := Lib.hid (HEND.out (fun r' e => by rw [hn] at e; cases e))
      clear HSTEP HEND HSN hn
      go_wp2_with fail
      rw [Exit.noGoto_ret]
      go_returns
      have hT := HTT.out
      have hV := HV.out
      rw [HE.out, List.take_length] at hT hV
      exact ⟨_, rows, by rw [← hT]; rfl, HR.out.below HB1.out, hV, HBX.out⟩
end Go.Proofs.Ytojkifcclgecoaa
