/-
  What is done to a queue, as an argument: opened; how much it is, at most its bulk; the law's small. · The law's did (stage 13), case by case: submitted, answered, committed, nothing. (gen_qudid.py) · Rows of ints of one's own whose front is cut off: append onto them, [1:] of them, that they stay. · The law QueueOnce, walked. (gen_quonce.py)
-/
import Derived.Test.YtnkfnmkbfnhmfaaDoorQuMem
import Derived.Test.YtnkfnmkbfnhmfaaDoorGV
import Derived.Test.YtnkfnmkbfnhmfaaDoorQuZ
import Derived.Test.YtnkfnmkbfnhmfaaDoorQuF
import Derived.ArgAppend
namespace Go.Proofs.YtnkfnmkbfnhmfaaDoor
open Go Go.RowKit Go.Shelf Go.Proofs Go.ChangeShapes Go.WideShapes Go.Deep

/-- One thing that is done. -/
structure DoX where
  k : Int
  q : QX
instance : Inhabited DoX := ⟨⟨0, default⟩⟩
def DoX.cs (x : DoX) : List Value := [.int .i64 x.k, .int .i64 x.q.id, .int .i64 x.q.base, .slice x.q.A x.q.l.length x.q.c]
structure DosAt (w : World) (A : Option Addr) (c : Nat) (l : List DoX) : Prop where
  cap : l.length ≤ c
  capm : c ≤ maxLen
  row : 0 < l.length → ∃ g o, A = some ⟨g, o, none⟩ ∧ ∀ i x, l[i]? = some x → w.cell? ⟨g, o + i * 4, none⟩ = some (.int .i64 x.k) ∧ w.cell? ⟨g, o + i * 4 + 1, none⟩ = some (.int .i64 x.q.id) ∧ w.cell? ⟨g, o + i * 4 + 2, none⟩ = some (.int .i64 x.q.base) ∧ w.cell? ⟨g, o + i * 4 + 3, none⟩ = some (.slice x.q.A x.q.l.length x.q.c)
  dels : ∀ x ∈ l, DelsAt w x.q.A x.q.c x.q.l
  big : ∀ x ∈ l, BigD x.q.l
  ids : ∀ x ∈ l, (Lit.int .i64 x.q.id).wf = true
theorem DosAt.below {w w' : World} {A : Option Addr} {c : Nat} {l : List DoX} (h : DosAt w A c l) (hb : Below w.heap.size w w') : DosAt w' A c l := by
  refine ⟨h.cap, h.capm, fun hn => ?_, fun x hx => (h.dels x hx).below hb, h.big, h.ids⟩
  obtain ⟨g, o, e, hr⟩ := h.row hn
  refine ⟨g, o, e, fun i x hx => ?_⟩
  obtain ⟨h0, h1, h2, h3⟩ := hr i x hx
  have k := fun (j : Nat) (v : Value) (hc : w.cell? ⟨g, j, none⟩ = some v) => (hb.cell (p := ⟨g, j, none⟩) (World.block_lt_of_cell? w (a := ⟨g, j, none⟩) hc)).trans hc
  exact ⟨k _ _ h0, k _ _ h1, k _ _ h2, k _ _ h3⟩
def longDos (l : List DoX) : Nat := (l.map fun x => 2 + longDN x.q.l).sum
theorem longDos_take (l : List DoX) (k : Nat) : longDos (l.take k) ≤ longDos l := by
  have e : longDos l = longDos (l.take k) + longDos (l.drop k) := by
    unfold longDos
    rw [← List.sum_append, ← List.map_append, List.take_append_drop]
  omega
theorem longDos_snoc {l : List DoX} {k : Nat} {x : DoX} (hx : l[k]? = some x) : longDos (l.take (k + 1)) = longDos (l.take k) + 2 + longDN x.q.l := by
  unfold longDos
  rw [List.take_add_one, hx, List.map_append, List.sum_append]
  simp
  omega
theorem longDos_mem {l : List DoX} {x : DoX} (h : x ∈ l) : 2 + longDN x.q.l ≤ longDos l := by
  obtain ⟨k, hk⟩ := List.getElem?_of_mem h
  have h1 := longDos_snoc hk
  have h2 := longDos_take l (k + 1)
  omega
section
variable {H : Type} {enc : TypeId × Value → H} {P : Program} {w : World} {base : Nat} {spare : Nat → Bool} {held : Bool}
structure DoTyQ (P : Program) (t e u : TypeId) (f0 f1 g0 g1 g2 d0 d1 d2 : Field) : Prop where
  st : P.underlying t = some (.struct #[f0, f1])
  cells : P.cellsOf t = 4
  o0 : f0.offset = 0
  c0 : P.cellsOf f0.type = 1
  num : P.underlying f0.type = some (.int .i64)
  o1 : f1.offset = 1
  c1 : P.cellsOf f1.type = 3
  stq : P.underlying f1.type = some (.struct #[g0, g1, g2])
  one : oneCellFields P #[g0, g1, g2] = true
  n0 : P.underlying g0.type = some (.int .i64)
  n1 : P.underlying g1.type = some (.int .i64)
  sl : P.underlying g2.type = some (.slice e)
  T : DeltaTy P e u d0 d1 d2
theorem open_doQ {t e u : TypeId} {f0 f1 g0 g1 g2 d0 d1 d2 : Field} (T : DoTyQ P t e u f0 f1 g0 g1 g2 d0 d1 d2) {fuel : Nat} {cs : List Value} {x : DataW H × List MemPlace}
    (h : DataW.trod enc P w base spare held fuel t cs = some x) (hz : Sized P t x.1) : ∃ y : DoX, cs = y.cs ∧ DelsAt w y.q.A y.q.c y.q.l ∧ BigD y.q.l ∧ (Lit.int .i64 y.q.id).wf = true ∧ 2 + longDN y.q.l ≤ Rows.uptoBulk x.1 := by
  obtain ⟨y0, y1, n, rfl, hlen, h0, h1⟩ := trod_struct2 T.st h
  rw [T.cells] at hlen
  match cs, hlen with
  | [a, b, c, d], _ =>
    have h0 : DataW.trod enc P w base spare held n f0.type [a] = some y0 := by simpa [T.o0, T.c0] using h0
    have h1 : DataW.trod enc P w base spare held n f1.type [b, c, d] = some y1 := by simpa [T.o1, T.c1] using h1
    have z1 : Sized P f1.type y1.1 := hz.field T.st (j := 1) (f := f1) rfl rfl
    obtain ⟨s0, s1, s2, n', rfl, hlen', k0, k1, k2⟩ := trod_struct3 T.stq h1
    obtain ⟨p0, r0⟩ := hone_of T.one 0 g0 rfl
    obtain ⟨p1, r1⟩ := hone_of T.one 1 g1 rfl
    obtain ⟨p2, r2⟩ := hone_of T.one 2 g2 rfl
    have k0 : DataW.trod enc P w base spare held n' g0.type [b] = some s0 := by simpa [p0, r0] using k0
    have k1 : DataW.trod enc P w base spare held n' g1.type [c] = some s1 := by simpa [p1, r1] using k1
    have k2 : DataW.trod enc P w base spare held n' g2.type [d] = some s2 := by simpa [p2, r2] using k2
    have z2 : Sized P g2.type s2.1 := z1.field T.stq (j := 2) (f := g2) rfl rfl
    obtain ⟨m0, e0, _, _⟩ := DataW.trod_int T.num h0
    obtain ⟨m1, e1, _, w1⟩ := DataW.trod_int T.n0 k0
    obtain ⟨m2, e2, _, _⟩ := DataW.trod_int T.n1 k1
    obtain ⟨A, cc, l, e3, hd, hb⟩ := open_deltasB T.sl T.T k2 z2
    rw [e3] at k2
    have hbk := deltas_bulk T.sl T.T k2 hd
    simp only [List.cons.injEq, and_true] at e0 e1 e2 e3
    subst e0; subst e1; subst e2; subst e3
    refine ⟨⟨m0, ⟨m1, m2, A, cc, l⟩⟩, rfl, hd, hb, w1, ?_⟩
    have b0 := bulk_pos y0.1
    simp only [Rows.uptoBulk, bulk_all, List.map_cons, List.map_nil, List.sum_cons, List.sum_nil]
    omega
theorem open_dosQ {t e t' u : TypeId} {f0 f1 g0 g1 g2 d0 d1 d2 : Field} (ht : P.underlying t' = some (.slice t)) (T : DoTyQ P t e u f0 f1 g0 g1 g2 d0 d1 d2) {r : Reach} {b0 : Nat} {v : Value} {d : DataW H} {p : List MemPlace} (hv : Value.okWide P w r b0 t' v)
    (h : DataW.Trod enc P w base spare held t' v d p) (hz : Sized P t' d) : ∃ A c l, v = .slice A l.length c ∧ DosAt w A c l ∧ longDos l ≤ Rows.uptoBulk d := by
  obtain ⟨a, len, cap, rfl⟩ := okWide_slice ht hv
  obtain ⟨fuel, hf⟩ := h
  rcases open_slice ht hf with ⟨hcs, _⟩ | ⟨a, len, cap, m, n, D, Pl, hcs, _, hl, hm, hmm, hx, hi⟩
  · simp only [Value.cells, List.cons.injEq, and_true] at hcs
    exact ⟨none, 0, [], hcs, ⟨Nat.le_refl _, Nat.zero_le _, fun h => absurd h (by simp), fun x hx => (by cases hx), fun x hx => (by cases hx), fun x hx => by cases hx⟩, Nat.zero_le _⟩
  · simp only [Value.cells, List.cons.injEq, and_true] at hcs
    rw [Prod.mk.injEq] at hx
    obtain ⟨rfl, _⟩ := hx
    have hle : len ≤ m := by rw [hmm]; split <;> omega
    rw [T.cells] at hi
    have each : ∀ i, i < len → ∃ f : DoX, (DelsAt w f.q.A f.q.c f.q.l ∧ BigD f.q.l ∧ (Lit.int .i64 f.q.id).wf = true ∧ 2 + longDN f.q.l ≤ Rows.uptoBulk (D i)) ∧ w.cell? ((a.add (i * 4)).add 0) = some (.int .i64 f.k) ∧ w.cell? ((a.add (i * 4)).add 1) = some (.int .i64 f.q.id) ∧ w.cell? ((a.add (i * 4)).add 2) = some (.int .i64 f.q.base) ∧ w.cell? ((a.add (i * 4)).add 3) = some (.slice f.q.A f.q.l.length f.q.c) := fun i hil => by
      obtain ⟨cs', hc, ht'⟩ := hi i (by omega)
      have hsz : Sized P t (D i) := hz.elem ht (List.mem_map.2 ⟨i, List.mem_range.2 hil, rfl⟩)
      obtain ⟨f, rfl, hf⟩ := open_doQ T ht' hsz
      obtain ⟨_, _, hat⟩ := World.cells?_some hc
      exact ⟨f, hf, hat 0 (by omega), hat 1 (by omega), hat 2 (by omega), hat 3 (by omega)⟩
    obtain ⟨F, hF⟩ := choose_lt each
    have hll : ((List.range len).map F).length = len := by simp
    have hmem : ∀ x ∈ (List.range len).map F, ∃ i, i < len ∧ F i = x := fun x hx => by
      obtain ⟨i, hi', rfl⟩ := List.mem_map.1 hx
      exact ⟨i, List.mem_range.1 hi', rfl⟩
    refine ⟨some a, cap, (List.range len).map F, by rw [hll]; exact hcs, ⟨by rw [hll]; exact hl, hm, fun hn => ?_, fun x hx => ?_, fun x hx => ?_, fun x hx => ?_⟩, ?_⟩
    · rw [hll] at hn
      obtain ⟨g, o, s⟩ := a
      have h00 := (hF 0 hn).2.1
      obtain rfl : s = none := by simpa [Addr.add] using World.cell?_spot h00
      refine ⟨g, o, rfl, fun i x hx => ?_⟩
      have hil : i < len := by
        have := (List.getElem?_eq_some_iff.1 hx).1
        rwa [hll] at this
      rw [List.getElem?_map, List.getElem?_range hil] at hx
      obtain rfl : F i = x := by simpa using hx
      obtain ⟨_, h0, h1, h2, h3⟩ := hF i hil
      rw [Go.WideShapes.add_plain, Go.WideShapes.add_plain] at h0 h1 h2 h3
      exact ⟨h0, h1, h2, h3⟩
    · obtain ⟨i, hil, rfl⟩ := hmem x hx
      exact (hF i hil).1.1
    · obtain ⟨i, hil, rfl⟩ := hmem x hx
      exact (hF i hil).1.2.1
    · obtain ⟨i, hil, rfl⟩ := hmem x hx
      exact (hF i hil).1.2.2.1
    · have h1 := sum_at (fun x : DoX => 2 + longDN x.q.l) (fun i => Rows.uptoBulk (D i)) ((List.range len).map F) (fun i x hx => by
        have hil : i < len := by
          have := (List.getElem?_eq_some_iff.1 hx).1
          rwa [hll] at this
        rw [List.getElem?_map, List.getElem?_range hil] at hx
        obtain rfl : F i = x := by simpa using hx
        exact (hF i hil).1.2.2.2)
      rw [hll] at h1
      simp only [Rows.uptoBulk, bulk_all, List.map_map]
      unfold longDos
      have e : (List.range len).map (Rows.uptoBulk ∘ D) = (List.range len).map fun i => Rows.uptoBulk (D i) := rfl
      rw [e]
      rw [List.map_map] at h1
      rw [List.map_map]
      omega
end
theorem do_tyQ : ∃ f0 f1 g0 g1 g2 d0 d1 d2, DoTyQ Tryd.prog 44 51 5 f0 f1 g0 g1 g2 d0 d1 d2 := by
  obtain ⟨d0, d1, d2, DT⟩ := delta_ty
  exact ⟨_, _, _, _, _, d0, d1, d2, Tryd.underlying44, by kernel_rfl, by kernel_rfl, by kernel_rfl, by kernel_rfl, by kernel_rfl, by kernel_rfl, Tryd.underlying42, by kernel_rfl, by kernel_rfl, by kernel_rfl, by kernel_rfl, DT⟩
set_option maxRecDepth 100000 in
theorem open_dosV {H : Type} {enc : TypeId × Value → H} {W : World} {base b0 : Nat} {spare : Nat → Bool} {held : Bool} {r : Reach} {v : Value} {d : DataW H} {p : List MemPlace} (hv : Value.okWide Tryd.prog W r b0 24 v)
    (h : DataW.Trod enc Tryd.prog W base spare held 24 v d p) (hz : Sized Tryd.prog 24 d) : ∃ A c l, v = .slice A l.length c ∧ DosAt W A c l ∧ longDos l ≤ Rows.uptoBulk d := by
  obtain ⟨f0, f1, g0, g1, g2, d0, d1, d2, T⟩ := do_tyQ
  exact open_dosQ Tryd.underlying24 T hv h hz
end Go.Proofs.YtnkfnmkbfnhmfaaDoor
namespace Go.Proofs.YtnkfnmkbfnhmfaaDoor
open Go Go.RowKit Go.Shelf Go.Proofs Go.ChangeMaps Go.Maps Go.WideMaps
attribute [local go_sem] Oper.semAt_some

set_option maxRecDepth 100000 in
set_option maxHeartbeats 8000000 in
theorem dosLong_any (l : List DoX) (A : Option Addr) (c : Nat) (w : World) (h : DosAt w A c l) (hl : longDos l ≤ 4611686018427387904) :
    Calls Tryd.prog 21 #[.slice A l.length c] w fun e w' => e = .returned (.int .i64 (longDos l)) ∧ Below w.heap.size w w' := by
  have HT := Lib.hid h
  have hcap : l.length ≤ maxLen := Nat.le_trans h.cap h.capm
  unfold maxLen at hcap
  clear h
  obtain ⟨n, hn⟩ : ∃ n, l.length = n := ⟨_, rfl⟩
  rw [hn] at hcap ⊢
  have HN := Lib.hid hn
  have HLL := Lib.hid hl
  clear hn hl
  go_enter Tryd.func21, Tryd.ntmps21
  go_wp2_with fail
  go_loopw [3, 4] (fun v3 v4 wr => ∃ (k m : Nat), v3 = .int .i64 m ∧ v4 = .int .i64 k ∧ k ≤ n ∧ Hid (m = longDos (l.take k)) ∧ Hid (Below w.heap.size w wr)) (fun _ v4 _ => n - (intOf v4).toNat)
  case atStart => exact ⟨0, 0, rfl, rfl, Nat.zero_le _, Lib.hid rfl, Lib.hid (Below.refl _ _)⟩
  case round =>
    obtain ⟨k, m, rfl, rfl, hk, HM, HB⟩ := hrel
    by_cases hlt : k < n
    · have q1 : (k : Int) < (n : Int) := by omega
      obtain ⟨x, hx⟩ : ∃ x, l[k]? = some x := ⟨_, List.getElem?_eq_getElem (by rw [HN.out]; exact hlt)⟩
      obtain ⟨g, o, hA, hr⟩ := (HT.out.below HB.out).row (by rw [HN.out]; omega)
      subst hA
      obtain ⟨-, -, -, c3⟩ := hr k x hx
      have hxm := List.mem_of_getElem? hx
      have hsn := longDos_snoc hx
      have hmx := longDos_mem hxm
      have htk := longDos_take l (k + 1)
      obtain ⟨z, hz⟩ : ∃ z, longDN x.q.l = z := ⟨_, rfl⟩
      rw [hz] at hsn hmx
      obtain ⟨d1, hd1⟩ : ∃ b, wr.heap.size = b := ⟨_, rfl⟩
      obtain ⟨W1, hW1⟩ : ∃ W, wr.alloc (.cells #[.slice x.q.A x.q.l.length x.q.c] 40) = W := ⟨_, rfl⟩
      have hh1 : W1.heap[d1]? = some (.cells #[.slice x.q.A x.q.l.length x.q.c] 40 (0, 0)) := by rw [← hW1, ← hd1]; exact heap_alloc_new _ _
      have hb1 : Below wr.heap.size wr W1 := by rw [← hW1]; exact (Below.refl _ _).alloc (Nat.le_refl _) _
      have hbw := HB.out.trans (hb1.mono HB.out.size)
      have hrow : LRowAt W1 (some ⟨d1, 0, none⟩) 1 [⟨x.q.A, x.q.c, x.q.l⟩] := ⟨Nat.le_refl _, by unfold maxLen; omega, fun _ => ⟨d1, 0, rfl, fun i y hy => by
        have hi : i = 0 := by
          have := (List.getElem?_eq_some_iff.1 hy).1
          simpa using this
        subst hi
        obtain rfl : (⟨x.q.A, x.q.c, x.q.l⟩ : LX) = y := by simpa using hy
        exact cell_of_row W1 d1 0 _ _ _ hh1⟩, fun y hy => by
        obtain rfl : y = ⟨x.q.A, x.q.c, x.q.l⟩ := by simpa using hy
        exact (HT.out.dels x hxm).below hbw, fun y hy => by
        obtain rfl : y = ⟨x.q.A, x.q.c, x.q.l⟩ := by simpa using hy
        exact HT.out.big x hxm⟩
      have hln : longLN [⟨x.q.A, x.q.c, x.q.l⟩] = 1 + z := by unfold longLN; simp [hz]
      have hcl := hreflong_any [⟨x.q.A, x.q.c, x.q.l⟩] (some ⟨d1, 0, none⟩) 1 W1 hrow (by rw [hln]; have := HLL.out; omega)
      rw [hln] at hcl
      have hcl : Calls Tryd.prog 36 #[.slice (some ⟨d1, 0, none⟩) 1 1] W1 _ := hcl
      have HCL := Lib.hid hcl
      have hme := HM.out
      have hll := HLL.out
      have w1 : IntKind.i64.wrap ((m : Int) + 1) = ((m + 1 : Nat) : Int) := by rw [IntWalk.i64_in _ (by omega)]; omega
      have w2 : IntKind.i64.wrap (((m + 1 : Nat) : Int) + ((1 + z : Nat) : Int)) = ((m + 2 + z : Nat) : Int) := by rw [IntWalk.i64_in _ (by omega)]; omega
      obtain ⟨m1, hm1⟩ : ∃ r : Int, ((m + 1 : Nat) : Int) = r := ⟨_, rfl⟩
      obtain ⟨z1, hz1⟩ : ∃ r : Int, ((1 + z : Nat) : Int) = r := ⟨_, rfl⟩
      obtain ⟨m2, hm2⟩ : ∃ r : Nat, m + 2 + z = r := ⟨_, rfl⟩
      rw [hm1] at w1 w2
      rw [hz1] at w2 HCL
      rw [hm2] at w2
      have HM2 := Lib.hid (show m2 = longDos (l.take (k + 1)) by omega)
      have HBW := Lib.hid hbw
      clear hx hr hxm hsn hmx htk hz hh1 hb1 hbw hrow hln hcl hme hll hm1 hz1 hm2
      go_wp2_with fail
      clear hW1 hd1
      refine HCL.out.mono ?_
      rintro e w2 ⟨rfl, hb2⟩
      have HB2 := Lib.hid (HBW.out.trans (hb2.mono HBW.out.size))
      clear hb2
      go_wp2_with fail
      go_roundw
      case rel => exact ⟨k + 1, m2, by first | rfl | rw [w2], by go_num, by omega, HM2, HB2⟩
      case measure => simp [intOf]; omega
    · have hk2 : k = n := by omega
      have q1 : ¬ (k : Int) < (n : Int) := by omega
      have hm : m = longDos l := by
        have := HM.out
        rw [hk2, List.take_of_length_le (by rw [HN.out]; exact Nat.le_refl _)] at this
        exact this
      have HMM := Lib.hid hm
      clear hk2 hm
      go_wp2_with fail
      go_ret
      exact ⟨by rw [HMM.out]; rfl, HB.out⟩
def smallQ (t : List FX) (l : List DoX) : Bool := decide (t.length ≤ 20) && decide (longN t ≤ 1000) && decide (l.length ≤ 30) && decide (longDos l ≤ 2000)
set_option maxRecDepth 100000 in
set_option maxHeartbeats 8000000 in
theorem qsmall_any (t : List FX) (l : List DoX) (A B : Option Addr) (c d : Nat) (w : World) (ht : TreeAt w A c t) (zt : BigX t) (hl : DosAt w B d l) (hb : longDos l ≤ 4611686018427387904) :
    Calls Tryd.prog 7 #[.slice A t.length c, .slice B l.length d] w fun e w' => e = .returned (.bool (smallQ t l)) ∧ Below w.heap.size w w' := by
  have HL := Lib.hid hl
  have HB := Lib.hid hb
  have HT := Lib.hid ht
  have HZ := Lib.hid zt
  clear hl hb ht zt
  by_cases h1 : t.length ≤ 20
  · have k1 : (t.length : Int) ≤ 20 := by omega
    have H1 := Lib.hid h1
    have HG := Lib.hid (reflong_any t A c w HT.out (by omega) HZ.out)
    clear h1
    go_enter Tryd.func7, Tryd.ntmps7
    go_wp2_with fail
    refine HG.out.mono ?_
    rintro e w1 ⟨rfl, hb1⟩
    by_cases h2 : longN t ≤ 1000
    · have k2 : (longN t : Int) ≤ 1000 := by omega
      have H2 := Lib.hid h2
      clear h2
      by_cases h3 : l.length ≤ 30
      · have k3 : (l.length : Int) ≤ 30 := by omega
        have H3 := Lib.hid h3
        have HG2 := Lib.hid (dosLong_any l B d w1 (HL.out.below hb1) HB.out)
        clear h3
        go_wp2_with fail
        refine HG2.out.mono ?_
        rintro e w2 ⟨rfl, hb2⟩
        have HB2 := Lib.hid (hb1.trans (hb2.mono hb1.size))
        clear hb2
        by_cases h4 : longDos l ≤ 2000
        · have k4 : (longDos l : Int) ≤ 2000 := by omega
          have H4 := Lib.hid h4
          clear h4
          go_wp2_with fail
          go_ret
          have e : smallQ t l = true := by unfold smallQ; simp [H1.out, H2.out, H3.out, H4.out]
          exact ⟨by rw [e]; rfl, HB2.out⟩
        · have k4 : ¬ (longDos l : Int) ≤ 2000 := by omega
          have H4 := Lib.hid h4
          clear h4
          go_wp2_with fail
          go_ret
          have e : smallQ t l = false := by unfold smallQ; simp [H1.out, H2.out, H3.out]; have := H4.out; omega
          exact ⟨by rw [e]; show Ending.returned (Value.bool (decide ((longDos l : Int) ≤ 2000))) = _; rw [decide_eq_false (by have := H4.out; omega)], HB2.out⟩
      · have k3 : ¬ (l.length : Int) ≤ 30 := by omega
        have H3 := Lib.hid h3
        clear h3
        go_wp2_with fail
        go_ret
        have e : smallQ t l = false := by unfold smallQ; simp [H3.out]
        exact ⟨by rw [e]; rfl, hb1⟩
    · have k2 : ¬ (longN t : Int) ≤ 1000 := by omega
      have H2 := Lib.hid h2
      clear h2
      go_wp2_with fail
      go_ret
      have e : smallQ t l = false := by unfold smallQ; simp [H2.out]
      exact ⟨by rw [e]; rfl, hb1⟩
  · have k1 : ¬ (t.length : Int) ≤ 20 := by omega
    have H1 := Lib.hid h1
    clear h1
    go_enter Tryd.func7, Tryd.ntmps7
    go_wp2_with fail
    go_ret
    have e : smallQ t l = false := by unfold smallQ; simp [H1.out]
    exact ⟨by rw [e]; rfl, Below.refl _ _⟩
end Go.Proofs.YtnkfnmkbfnhmfaaDoor
namespace Go.Proofs.YtnkfnmkbfnhmfaaDoor
open Go Go.RowKit Go.Shelf Go.Proofs Go.ChangeMaps Go.Maps Go.WideMaps
attribute [local go_sem] Oper.semAt_some

def told (E : Int) (a : AX) (is : Bool) : Value := .agg #[.int .i64 E, .int .i64 a.id, .int .i64 a.k, .int .i64 a.r, .int .i64 a.e, .bool is]
def doV (k : Int) (x : QX) : Value := .agg #[.int .i64 k, .int .i64 x.id, .int .i64 x.base, .slice x.A x.l.length x.c]
def DoB (W : World) (b : Nat) (k : Int) (x : QX) : Prop := W.heap[b]? = some (.cells #[.int .i64 k, .int .i64 x.id, .int .i64 x.base, .slice x.A x.l.length x.c] 44 (0, 0))
theorem DoB.facts {W : World} {b : Nat} {k : Int} {x : QX} (h : DoB W b k x) : W.cell? ⟨b, 0, none⟩ = some (.int .i64 k) ∧ W.cell? ⟨b, 1, none⟩ = some (.int .i64 x.id) ∧ W.cell? ⟨b, 2, none⟩ = some (.int .i64 x.base) ∧ W.cell? ⟨b, 3, none⟩ = some (.slice x.A x.l.length x.c) :=
  ⟨cell_of_row W b 0 _ _ _ h, cell_of_row W b 1 _ _ _ h, cell_of_row W b 2 _ _ _ h, cell_of_row W b 3 _ _ _ h⟩
def TolB (W : World) (b : Nat) (E : Int) (a : AX) (is : Bool) : Prop := W.heap[b]? = some (.cells #[.int .i64 E, .int .i64 a.id, .int .i64 a.k, .int .i64 a.r, .int .i64 a.e, .bool is] 38 (0, 0))
theorem TolB.facts {W : World} {b : Nat} {E : Int} {a : AX} {is : Bool} (h : TolB W b E a is) : W.cell? ⟨b, 0, none⟩ = some (.int .i64 E) ∧ W.cell? ⟨b, 1, none⟩ = some (.int .i64 a.id) ∧ W.cell? ⟨b, 2, none⟩ = some (.int .i64 a.k) ∧ W.cell? ⟨b, 3, none⟩ = some (.int .i64 a.r) ∧ W.cell? ⟨b, 4, none⟩ = some (.int .i64 a.e) ∧ W.cell? ⟨b, 5, none⟩ = some (.bool is) :=
  ⟨cell_of_row W b 0 _ _ _ h, cell_of_row W b 1 _ _ _ h, cell_of_row W b 2 _ _ _ h, cell_of_row W b 3 _ _ _ h, cell_of_row W b 4 _ _ _ h, cell_of_row W b 5 _ _ _ h⟩
theorem TolB.free {W : World} {b : Nat} {E : Int} {a : AX} {is : Bool} (h : TolB W b E a is) : W.frozen? ⟨b, 0, none⟩ = false ∧ W.frozen? ⟨b, 1, none⟩ = false ∧ W.frozen? ⟨b, 2, none⟩ = false ∧ W.frozen? ⟨b, 3, none⟩ = false ∧ W.frozen? ⟨b, 4, none⟩ = false ∧ W.frozen? ⟨b, 5, none⟩ = false := by
  unfold TolB at h
  refine ⟨?_, ?_, ?_, ?_, ?_, ?_⟩ <;> simp [World.frozen?, h]
theorem grown_setQ (W : World) (b i : Nat) (v : Value) : W.grownBy (W.setCell ⟨b, i, none⟩ v) (some b) := ⟨rfl, rfl, rfl, by simp [World.setCell], fun q _ hne => heap_setCell_other W ⟨b, i, none⟩ q v (fun e => hne (by rw [e]))⟩
theorem grown_twoQ {a b c : World} {g : Nat} (h : a.grownBy b (some g)) (k : b.grownBy c (some g)) : a.grownBy c (some g) := ⟨k.os.trans h.os, k.tape.trans h.tape, k.output.trans h.output, Nat.le_trans h.size k.size, fun q hq hne => (k.block q (Nat.lt_of_lt_of_le hq h.size) hne).trans (h.block q hq hne)⟩
theorem TolB.setE {W : World} {b : Nat} {E : Int} {a : AX} {is : Bool} (h : TolB W b E a is) (E' : Int) : TolB (W.setCell ⟨b, 0, none⟩ (.int .i64 E')) b E' a is := heap_setCell_same W b 0 _ _ _ h
theorem TolB.setI {W : World} {b : Nat} {E : Int} {a : AX} {is : Bool} (h : TolB W b E a is) (i : Bool) : TolB (W.setCell ⟨b, 5, none⟩ (.bool i)) b E a i := heap_setCell_same W b 5 _ _ _ h
theorem TolB.setA {W : World} {b : Nat} {E : Int} {a : AX} {is : Bool} (h : TolB W b E a is) (y : AX) : TolB ((((W.setCell ⟨b, 1, none⟩ (.int .i64 y.id)).setCell ⟨b, 2, none⟩ (.int .i64 y.k)).setCell ⟨b, 3, none⟩ (.int .i64 y.r)).setCell ⟨b, 4, none⟩ (.int .i64 y.e)) b E y is ∧ W.grownBy ((((W.setCell ⟨b, 1, none⟩ (.int .i64 y.id)).setCell ⟨b, 2, none⟩ (.int .i64 y.k)).setCell ⟨b, 3, none⟩ (.int .i64 y.r)).setCell ⟨b, 4, none⟩ (.int .i64 y.e)) (some b) := by
  have h1 := heap_setCell_same W b 1 _ _ (.int .i64 y.id) h
  have h2 := heap_setCell_same _ b 2 _ _ (.int .i64 y.k) h1
  have h3 := heap_setCell_same _ b 3 _ _ (.int .i64 y.r) h2
  have h4 := heap_setCell_same _ b 4 _ _ (.int .i64 y.e) h3
  exact ⟨h4, grown_twoQ (grown_twoQ (grown_twoQ (grown_setQ W b 1 _) (grown_setQ _ b 2 _)) (grown_setQ _ b 3 _)) (grown_setQ _ b 4 _)⟩
theorem TolB.all {W : World} {b : Nat} {E : Int} {a : AX} {is : Bool} (h : TolB W b E a is) (E' i0 i1 i2 i3 : Int) (i : Bool) : TolB ((((((W.setCell ⟨b, 0, none⟩ (.int .i64 E')).setCell ⟨b, 1, none⟩ (.int .i64 i0)).setCell ⟨b, 2, none⟩ (.int .i64 i1)).setCell ⟨b, 3, none⟩ (.int .i64 i2)).setCell ⟨b, 4, none⟩ (.int .i64 i3)).setCell ⟨b, 5, none⟩ (.bool i)) b E' ⟨i0, i1, i2, i3⟩ i ∧ W.grownBy ((((((W.setCell ⟨b, 0, none⟩ (.int .i64 E')).setCell ⟨b, 1, none⟩ (.int .i64 i0)).setCell ⟨b, 2, none⟩ (.int .i64 i1)).setCell ⟨b, 3, none⟩ (.int .i64 i2)).setCell ⟨b, 4, none⟩ (.int .i64 i3)).setCell ⟨b, 5, none⟩ (.bool i)) (some b) := by
  obtain ⟨h1, h2⟩ := (h.setE E').setA ⟨i0, i1, i2, i3⟩
  exact ⟨h1.setI i, grown_twoQ (grown_twoQ (grown_setQ W b 0 _) h2) (grown_setQ _ b 5 _)⟩
/-- Where a box of what is told turns, queue and history stay. -/
theorem told_key {w w' : World} {b : Nat} {E : Int} {a : AX} {is : Bool} (h : TolB w b E a is) (hg : w.grownBy w' (some b)) : ∀ (j : Nat) (o : Obj), w.heap[j]? = some o → (∀ cur, o ≠ .cells cur 38 (0, 0)) → w'.heap[j]? = w.heap[j]? := fun j o ho h1 => hg.block j (Array.getElem?_eq_some_iff.1 ho).1 (fun e => by
  cases e
  unfold TolB at h
  rw [h] at ho; cases ho
  exact h1 _ rfl)
theorem QueueAt.told {base : Nat} {w w' : World} {qb hb ab room b : Nat} {v : Value} {R : List QX} {L : List AX} {E : Int} {a : AX} {is : Bool} (h : QueueAt base w qb hb ab room v R L) (hr : TolB w b E a is) (hg : w.grownBy w' (some b)) : QueueAt base w' qb hb ab room v R L :=
  h.keep (fun g cur t ht hc => told_key hr hg g _ hc (fun cur' e => by cases e; rcases ht with h | h | h | h <;> exact absurd h (by decide))) (fun o ho => by
    obtain ⟨es, ck, hm, _⟩ := h.ans
    rw [told_key hr hg _ _ hm (fun _ e => by cases e)]; exact ho)
theorem HistAt.told {base : Nat} {w w' : World} {b hb n : Nat} {E : Int} {a : AX} {is : Bool} {nm : List FX} {M : Bs → Nat} {nv cv : Value} {mb k : Nat} {D : DataW Unit} {H : List (Nat × List DX)} (h : HistAt base w hb n nm M nv cv mb k D H) (hr : TolB w b E a is) (hg : w.grownBy w' (some b)) : HistAt base w' hb n nm M nv cv mb k D H :=
  h.keepT (fun g cur t ht hc => told_key hr hg g _ hc (fun cur' e => by cases e; rcases ht with h | h | h | h | h <;> exact absurd h (by decide))) (fun o ho => by
    obtain ⟨es, ck, hm⟩ := h.map.block
    rw [told_key hr hg _ _ hm (fun _ e => by cases e)]; exact ho)
theorem QFrame.behind {n qb : Nat} {v : Value} {w w' w'' : World} (h : QFrame qb v w w') (hn : w.heap.size ≤ n) (hb : Below n w' w'') : QFrame qb v w w'' := ⟨Nat.le_trans h.size hb.size, fun g cur t ht h1 h2 _ hg => by
  have e := h.cells g cur t ht h1 h2 hg
  exact (hb.block g (by have := (Array.getElem?_eq_some_iff.1 hg).1; omega)).trans e⟩
theorem QFrame.ahead {qb : Nat} {v : Value} {w w' w'' : World} (hb : Below w.heap.size w w') (h : QFrame qb v w' w'') : QFrame qb v w w'' := ⟨Nat.le_trans hb.size h.size, fun g cur t ht h1 h2 _ hg => by
  have e := hb.block g (Array.getElem?_eq_some_iff.1 hg).1
  exact (h.cells g cur t ht h1 h2 (e.trans hg)).trans e⟩
theorem QTurn.behindQ {S : Nat → Prop} {n : Nat} {w w' w'' : World} (h : QTurn S w w') (hn : w.heap.size ≤ n) (hb : Below n w' w'') : QTurn S w w'' := ⟨hb.os.trans h.os, hb.tape.trans h.tape, hb.output.trans h.output, Nat.le_trans h.size hb.size, fun j hj hs => (hb.block j (by omega)).trans (h.block j hj hs)⟩
/-- The call's boxes, as it begins. -/
structure Boxes (w W : World) (b : Nat) (k : Int) (x : QX) : Prop where
  bel : Below w.heap.size w W
  lt : w.heap.size ≤ b
  d : DoB W b k x
  r : TolB W (b + 1) 0 noA false
  s : TolB W (b + 2) 0 noA false
set_option maxRecDepth 100000 in
set_option maxHeartbeats 16000000 in
theorem did_other (k : Int) (x : QX) (qp : Value) (w : World) (h1 : k ≠ 1) (h2 : k ≠ 2) (h3 : k ≠ 3) (h4 : k ≠ 4) : Calls Tryd.prog 12 #[qp, doV k x] w fun e w' => e = .returned (told 0 noA false) ∧ Below w.heap.size w w' := by
  obtain ⟨id, bs, A, c, l⟩ := x
  unfold doV told
  simp only
  obtain ⟨b1, hb1⟩ : ∃ b, w.heap.size = b := ⟨_, rfl⟩
  obtain ⟨n0, hn0⟩ : ∃ n, l.length = n := ⟨_, rfl⟩
  obtain ⟨W1, hW1⟩ : ∃ W, w.alloc (.cells #[.int .i64 k, .int .i64 id, .int .i64 bs, .slice A n0 c] 44) = W := ⟨_, rfl⟩
  have s1 : W1.heap.size = b1 + 1 := by rw [← hW1, ← hb1]; simp
  obtain ⟨W2, hW2⟩ : ∃ W, W1.alloc (.cells #[.int .i64 0, .int .i64 0, .int .i64 0, .int .i64 0, .int .i64 0, .bool false] 38) = W := ⟨_, rfl⟩
  have s2 : W2.heap.size = b1 + 2 := by rw [← hW2]; simp [s1]
  obtain ⟨W3, hW3⟩ : ∃ W, W2.alloc (.cells #[.int .i64 0, .int .i64 0, .int .i64 0, .int .i64 0, .int .i64 0, .bool false] 38) = W := ⟨_, rfl⟩
  have e1 : Below w.heap.size w W1 := by rw [← hW1]; exact (Below.refl _ _).alloc (Nat.le_refl _) _
  have e2 : Below W1.heap.size W1 W2 := by rw [← hW2]; exact (Below.refl _ _).alloc (Nat.le_refl _) _
  have e3 : Below W2.heap.size W2 W3 := by rw [← hW3]; exact (Below.refl _ _).alloc (Nat.le_refl _) _
  have hd1 : DoB W1 b1 k ⟨id, bs, A, c, l⟩ := by unfold DoB; rw [← hW1, ← hb1, hn0]; exact heap_alloc_new _ _
  have hr2 : TolB W2 (b1 + 1) 0 noA false := by unfold TolB; rw [← hW2, ← s1]; exact heap_alloc_new _ _
  have hs3 : TolB W3 (b1 + 2) 0 noA false := by unfold TolB; rw [← hW3, ← s2]; exact heap_alloc_new _ _
  have hbx : Boxes w W3 b1 k ⟨id, bs, A, c, l⟩ := ⟨(e1.trans (e2.mono e1.size)).trans (e3.mono (by have := e1.size; omega)), Nat.le_of_eq hb1, row_belowQ (row_belowQ hd1 e2) e3, row_belowQ hr2 e3, hs3⟩
  have HBX := Lib.hid hbx
  have HB1 := Lib.hid hb1
  have HN0 := Lib.hid hn0
  have HW1 := Lib.hid hW1
  have HW2 := Lib.hid hW2
  have HW3 := Lib.hid hW3
  have HS1 := Lib.hid s1
  have HS2 := Lib.hid s2
  clear e1 e2 e3 hd1 hr2 hs3 hbx hW1 hW2 hW3 hb1 s1 s2
  rw [hn0]
  have HHN := Lib.hid hn0
  clear hn0
  obtain ⟨x0, x1, x2, x3⟩ := HBX.out.d.facts
  simp only at x0 x1 x2 x3
  rw [HN0.out] at x3
  obtain ⟨y0, y1, y2, y3, y4, y5⟩ := HBX.out.s.facts
  obtain ⟨v0, v1, v2, v3, v4, v5⟩ := HBX.out.s.free
  simp only [noA] at y0 y1 y2 y3 y4 y5
  have q1 : ((k : Int) == 1) = false := by rw [beq_eq_false_iff_ne]; omega
  have q2 : ((k : Int) == 2) = false := by rw [beq_eq_false_iff_ne]; omega
  have q3 : ((k : Int) == 3) = false := by rw [beq_eq_false_iff_ne]; omega
  have q4 : ((k : Int) == 4) = false := by rw [beq_eq_false_iff_ne]; omega
  go_enter Tryd.func12, Tryd.ntmps12
  go_upto_region 2 with fail
  rw [HB1.out, HW1.out, HW2.out, HW3.out, show b1 + 1 + 1 = b1 + 2 from rfl]
  obtain ⟨p0, p1, p2, p3, p4, p5⟩ := HBX.out.r.facts
  obtain ⟨f0, f1, f2, f3, f4, f5⟩ := HBX.out.r.free
  simp only [noA] at p0 p1 p2 p3 p4 p5
  clear v0 v1 v2 v3 v4 v5
  go_wp2_with fail
  obtain ⟨r9, g9⟩ := HBX.out.r.all 0 0 0 0 0 false
  refine bodyPost_ret (results_cell_row rfl _ _ (b1 + 1) 38 _ (0, 0) _ rfl r9 Tryd.underlying38 rfl (by kernel_rfl)) rfl ⟨rfl, HBX.out.bel.grown g9 HBX.out.bel.size (fun j e => by cases e; have := HBX.out.lt; omega)⟩
set_option maxRecDepth 100000 in
set_option maxHeartbeats 16000000 in
theorem did_none_two {base : Nat} {w : World} {qb hb ab room : Nat} {v : Value} {L : List AX} (h : QueueAt base w qb hb ab room v [] L) (x : QX) : Calls Tryd.prog 12 #[.pointer (some ⟨qb, 0, none⟩), doV 2 x] w fun e w' => e = .returned (told 0 noA false) ∧ Below w.heap.size w w' := by
  have HQ := Lib.hid h
  clear h
  obtain ⟨id, bs, A, c, l⟩ := x
  unfold doV told
  simp only
  obtain ⟨b1, hb1⟩ : ∃ b, w.heap.size = b := ⟨_, rfl⟩
  obtain ⟨n0, hn0⟩ : ∃ n, l.length = n := ⟨_, rfl⟩
  obtain ⟨W1, hW1⟩ : ∃ W, w.alloc (.cells #[.int .i64 2, .int .i64 id, .int .i64 bs, .slice A n0 c] 44) = W := ⟨_, rfl⟩
  have s1 : W1.heap.size = b1 + 1 := by rw [← hW1, ← hb1]; simp
  obtain ⟨W2, hW2⟩ : ∃ W, W1.alloc (.cells #[.int .i64 0, .int .i64 0, .int .i64 0, .int .i64 0, .int .i64 0, .bool false] 38) = W := ⟨_, rfl⟩
  have s2 : W2.heap.size = b1 + 2 := by rw [← hW2]; simp [s1]
  obtain ⟨W3, hW3⟩ : ∃ W, W2.alloc (.cells #[.int .i64 0, .int .i64 0, .int .i64 0, .int .i64 0, .int .i64 0, .bool false] 38) = W := ⟨_, rfl⟩
  have e1 : Below w.heap.size w W1 := by rw [← hW1]; exact (Below.refl _ _).alloc (Nat.le_refl _) _
  have e2 : Below W1.heap.size W1 W2 := by rw [← hW2]; exact (Below.refl _ _).alloc (Nat.le_refl _) _
  have e3 : Below W2.heap.size W2 W3 := by rw [← hW3]; exact (Below.refl _ _).alloc (Nat.le_refl _) _
  have hd1 : DoB W1 b1 2 ⟨id, bs, A, c, l⟩ := by unfold DoB; rw [← hW1, ← hb1, hn0]; exact heap_alloc_new _ _
  have hr2 : TolB W2 (b1 + 1) 0 noA false := by unfold TolB; rw [← hW2, ← s1]; exact heap_alloc_new _ _
  have hs3 : TolB W3 (b1 + 2) 0 noA false := by unfold TolB; rw [← hW3, ← s2]; exact heap_alloc_new _ _
  have hbx : Boxes w W3 b1 2 ⟨id, bs, A, c, l⟩ := ⟨(e1.trans (e2.mono e1.size)).trans (e3.mono (by have := e1.size; omega)), Nat.le_of_eq hb1, row_belowQ (row_belowQ hd1 e2) e3, row_belowQ hr2 e3, hs3⟩
  have HBX := Lib.hid hbx
  have HB1 := Lib.hid hb1
  have HN0 := Lib.hid hn0
  have HW1 := Lib.hid hW1
  have HW2 := Lib.hid hW2
  have HW3 := Lib.hid hW3
  have HS1 := Lib.hid s1
  have HS2 := Lib.hid s2
  clear e1 e2 e3 hd1 hr2 hs3 hbx hW1 hW2 hW3 hb1 s1 s2
  rw [hn0]
  have HHN := Lib.hid hn0
  clear hn0
  obtain ⟨x0, x1, x2, x3⟩ := HBX.out.d.facts
  simp only at x0 x1 x2 x3
  rw [HN0.out] at x3
  obtain ⟨y0, y1, y2, y3, y4, y5⟩ := HBX.out.s.facts
  obtain ⟨v0, v1, v2, v3, v4, v5⟩ := HBX.out.s.free
  simp only [noA] at y0 y1 y2 y3 y4 y5
  have HST := Lib.hid (step_none (HQ.out.below HBX.out.bel) true)
  go_enter Tryd.func12, Tryd.ntmps12
  go_upto_region 2 with fail
  rw [HB1.out, HW1.out, HW2.out, HW3.out, show b1 + 1 + 1 = b1 + 2 from rfl]
  go_wp2_with fail
  refine HST.out.mono ?_
  rintro e w4 ⟨rfl, hb4⟩
  simp only [noA, AX.v]
  have R4 := Lib.hid (show TolB w4 (b1 + 1) 0 noA false from row_belowQ HBX.out.r hb4)
  have S4 := Lib.hid (show TolB w4 (b1 + 2) 0 noA false from row_belowQ HBX.out.s hb4)
  have HB4 := Lib.hid (HBX.out.bel.trans (hb4.mono HBX.out.bel.size))
  clear hb4 v0 v1 v2 v3 v4 v5 y0 y1 y2 y3 y4 y5
  obtain ⟨b8, hb8⟩ : ∃ b, w4.heap.size = b := ⟨_, rfl⟩
  obtain ⟨W8, hW8⟩ : ∃ W, w4.alloc (.cells #[.int .i64 0, .int .i64 0, .int .i64 0, .int .i64 0] 36) = W := ⟨_, rfl⟩
  have a8 : AnsB W8 b8 noA := by unfold AnsB; rw [← hW8, ← hb8]; exact heap_alloc_new _ _
  have hbl8 : Below w4.heap.size w4 W8 := by rw [← hW8]; exact (Below.refl _ _).alloc (Nat.le_refl _) _
  obtain ⟨a8s, g8⟩ := a8.store ⟨0, 0, 0, 0⟩
  simp only at a8s g8
  obtain ⟨V8, hV8⟩ : ∃ W, (((W8.setCell ⟨b8, 0, none⟩ (.int .i64 0)).setCell ⟨b8, 1, none⟩ (.int .i64 0)).setCell ⟨b8, 2, none⟩ (.int .i64 0)).setCell ⟨b8, 3, none⟩ (.int .i64 0) = W := ⟨_, rfl⟩
  rw [hV8] at a8s g8
  have hbm8 : Below w4.heap.size w4 V8 := hbl8.grown g8 hbl8.size (fun j e => by cases e; omega)
  obtain ⟨z0, z1, z2, z3, z4, z5, z6, z7⟩ := a8.facts
  simp only [noA] at z0 z1 z2 z3
  have HV8 := Lib.hid hV8
  have HBM8 := Lib.hid hbm8
  have R8 := Lib.hid (show TolB V8 (b1 + 1) 0 noA false from row_belowQ R4.out hbm8)
  have S8 := Lib.hid (show TolB V8 (b1 + 2) 0 noA false from row_belowQ S4.out hbm8)
  have A8 := Lib.hid a8s
  clear a8 hbl8 hV8 g8 a8s hbm8
  go_upto_region 8 with fail
  rw [HV8.out]
  clear z0 z1 z2 z3 z4 z5 z6 z7 hW8 hb8
  obtain ⟨y0, y1, y2, y3, -, -, -, -⟩ := A8.out.facts
  simp only at y0 y1 y2 y3
  obtain ⟨u0, u1, u2, u3, u4, u5⟩ := S8.out.facts
  obtain ⟨v0, v1, v2, v3, v4, v5⟩ := S8.out.free
  obtain ⟨s9, g9⟩ := S8.out.setA ⟨0, 0, 0, 0⟩
  simp only at s9 g9
  obtain ⟨V9, hV9⟩ : ∃ W, (((V8.setCell ⟨b1 + 2, 1, none⟩ (.int .i64 0)).setCell ⟨b1 + 2, 2, none⟩ (.int .i64 0)).setCell ⟨b1 + 2, 3, none⟩ (.int .i64 0)).setCell ⟨b1 + 2, 4, none⟩ (.int .i64 0) = W := ⟨_, rfl⟩
  rw [hV9] at s9 g9
  have HV9 := Lib.hid hV9
  have S9 := Lib.hid s9
  have G9 := Lib.hid g9
  have R9 := Lib.hid (show TolB V9 (b1 + 1) 0 noA false from row_grownQ R8.out g9 (by omega))
  clear s9 g9 hV9
  go_upto_region 9 with fail
  rw [HV9.out]
  clear u0 u1 u2 u3 u4 u5 v0 v1 v2 v3 v4 v5 y0 y1 y2 y3
  obtain ⟨u0, u1, u2, u3, u4, u5⟩ := S9.out.facts
  obtain ⟨v0, v1, v2, v3, v4, v5⟩ := S9.out.free
  simp only [] at u0 u1 u2 u3 u4 u5
  have sX := S9.out.setI false
  have gX := grown_setQ V9 (b1 + 2) 5 (.bool false)
  obtain ⟨VX, hVX⟩ : ∃ W, V9.setCell ⟨b1 + 2, 5, none⟩ (.bool false) = W := ⟨_, rfl⟩
  rw [hVX] at sX gX
  have HVX := Lib.hid hVX
  have SX := Lib.hid sX
  have GX := Lib.hid gX
  have RX := Lib.hid (show TolB VX (b1 + 1) 0 noA false from row_grownQ R9.out gX (by omega))
  clear sX gX hVX
  go_upto_region 13 with fail
  rw [HVX.out]
  clear u0 u1 u2 u3 u4 u5 v0 v1 v2 v3 v4 v5
  obtain ⟨p0, p1, p2, p3, p4, p5⟩ := RX.out.facts
  obtain ⟨f0, f1, f2, f3, f4, f5⟩ := RX.out.free
  obtain ⟨u0, u1, u2, u3, u4, u5⟩ := SX.out.facts
  simp only [noA] at p0 p1 p2 p3 p4 p5 u0 u1 u2 u3 u4 u5
  go_wp2_with fail
  obtain ⟨r9, g9⟩ := RX.out.all 0 0 0 0 0 false
  refine bodyPost_ret (results_cell_row rfl _ _ (b1 + 1) 38 _ (0, 0) _ rfl r9 Tryd.underlying38 rfl (by kernel_rfl)) rfl ?_
  have hbz := (((HB4.out).trans (HBM8.out.mono (HB4.out).size)).grown G9.out (by have := (HB4.out).size; have := HBM8.out.size; omega) (fun j e => by cases e; have := HBX.out.lt; omega)).grown GX.out (by have := (HB4.out).size; have := HBM8.out.size; have := G9.out.size; omega) (fun j e => by cases e; have := HBX.out.lt; omega)
  exact ⟨rfl, hbz.grown g9 (by have := hbz.size; omega) (fun j e => by cases e; have := HBX.out.lt; omega)⟩
set_option maxRecDepth 100000 in
set_option maxHeartbeats 16000000 in
theorem did_none_three {base : Nat} {w : World} {qb hb ab room : Nat} {v : Value} {L : List AX} (h : QueueAt base w qb hb ab room v [] L) (x : QX) : Calls Tryd.prog 12 #[.pointer (some ⟨qb, 0, none⟩), doV 3 x] w fun e w' => e = .returned (told 0 noA false) ∧ Below w.heap.size w w' := by
  have HQ := Lib.hid h
  clear h
  obtain ⟨id, bs, A, c, l⟩ := x
  unfold doV told
  simp only
  obtain ⟨b1, hb1⟩ : ∃ b, w.heap.size = b := ⟨_, rfl⟩
  obtain ⟨n0, hn0⟩ : ∃ n, l.length = n := ⟨_, rfl⟩
  obtain ⟨W1, hW1⟩ : ∃ W, w.alloc (.cells #[.int .i64 3, .int .i64 id, .int .i64 bs, .slice A n0 c] 44) = W := ⟨_, rfl⟩
  have s1 : W1.heap.size = b1 + 1 := by rw [← hW1, ← hb1]; simp
  obtain ⟨W2, hW2⟩ : ∃ W, W1.alloc (.cells #[.int .i64 0, .int .i64 0, .int .i64 0, .int .i64 0, .int .i64 0, .bool false] 38) = W := ⟨_, rfl⟩
  have s2 : W2.heap.size = b1 + 2 := by rw [← hW2]; simp [s1]
  obtain ⟨W3, hW3⟩ : ∃ W, W2.alloc (.cells #[.int .i64 0, .int .i64 0, .int .i64 0, .int .i64 0, .int .i64 0, .bool false] 38) = W := ⟨_, rfl⟩
  have e1 : Below w.heap.size w W1 := by rw [← hW1]; exact (Below.refl _ _).alloc (Nat.le_refl _) _
  have e2 : Below W1.heap.size W1 W2 := by rw [← hW2]; exact (Below.refl _ _).alloc (Nat.le_refl _) _
  have e3 : Below W2.heap.size W2 W3 := by rw [← hW3]; exact (Below.refl _ _).alloc (Nat.le_refl _) _
  have hd1 : DoB W1 b1 3 ⟨id, bs, A, c, l⟩ := by unfold DoB; rw [← hW1, ← hb1, hn0]; exact heap_alloc_new _ _
  have hr2 : TolB W2 (b1 + 1) 0 noA false := by unfold TolB; rw [← hW2, ← s1]; exact heap_alloc_new _ _
  have hs3 : TolB W3 (b1 + 2) 0 noA false := by unfold TolB; rw [← hW3, ← s2]; exact heap_alloc_new _ _
  have hbx : Boxes w W3 b1 3 ⟨id, bs, A, c, l⟩ := ⟨(e1.trans (e2.mono e1.size)).trans (e3.mono (by have := e1.size; omega)), Nat.le_of_eq hb1, row_belowQ (row_belowQ hd1 e2) e3, row_belowQ hr2 e3, hs3⟩
  have HBX := Lib.hid hbx
  have HB1 := Lib.hid hb1
  have HN0 := Lib.hid hn0
  have HW1 := Lib.hid hW1
  have HW2 := Lib.hid hW2
  have HW3 := Lib.hid hW3
  have HS1 := Lib.hid s1
  have HS2 := Lib.hid s2
  clear e1 e2 e3 hd1 hr2 hs3 hbx hW1 hW2 hW3 hb1 s1 s2
  rw [hn0]
  have HHN := Lib.hid hn0
  clear hn0
  obtain ⟨x0, x1, x2, x3⟩ := HBX.out.d.facts
  simp only at x0 x1 x2 x3
  rw [HN0.out] at x3
  obtain ⟨y0, y1, y2, y3, y4, y5⟩ := HBX.out.s.facts
  obtain ⟨v0, v1, v2, v3, v4, v5⟩ := HBX.out.s.free
  simp only [noA] at y0 y1 y2 y3 y4 y5
  have HST := Lib.hid (step_none (HQ.out.below HBX.out.bel) false)
  go_enter Tryd.func12, Tryd.ntmps12
  go_upto_region 2 with fail
  rw [HB1.out, HW1.out, HW2.out, HW3.out, show b1 + 1 + 1 = b1 + 2 from rfl]
  go_wp2_with fail
  refine HST.out.mono ?_
  rintro e w4 ⟨rfl, hb4⟩
  simp only [noA, AX.v]
  have R4 := Lib.hid (show TolB w4 (b1 + 1) 0 noA false from row_belowQ HBX.out.r hb4)
  have S4 := Lib.hid (show TolB w4 (b1 + 2) 0 noA false from row_belowQ HBX.out.s hb4)
  have HB4 := Lib.hid (HBX.out.bel.trans (hb4.mono HBX.out.bel.size))
  clear hb4 v0 v1 v2 v3 v4 v5 y0 y1 y2 y3 y4 y5
  obtain ⟨b8, hb8⟩ : ∃ b, w4.heap.size = b := ⟨_, rfl⟩
  obtain ⟨W8, hW8⟩ : ∃ W, w4.alloc (.cells #[.int .i64 0, .int .i64 0, .int .i64 0, .int .i64 0] 36) = W := ⟨_, rfl⟩
  have a8 : AnsB W8 b8 noA := by unfold AnsB; rw [← hW8, ← hb8]; exact heap_alloc_new _ _
  have hbl8 : Below w4.heap.size w4 W8 := by rw [← hW8]; exact (Below.refl _ _).alloc (Nat.le_refl _) _
  obtain ⟨a8s, g8⟩ := a8.store ⟨0, 0, 0, 0⟩
  simp only at a8s g8
  obtain ⟨V8, hV8⟩ : ∃ W, (((W8.setCell ⟨b8, 0, none⟩ (.int .i64 0)).setCell ⟨b8, 1, none⟩ (.int .i64 0)).setCell ⟨b8, 2, none⟩ (.int .i64 0)).setCell ⟨b8, 3, none⟩ (.int .i64 0) = W := ⟨_, rfl⟩
  rw [hV8] at a8s g8
  have hbm8 : Below w4.heap.size w4 V8 := hbl8.grown g8 hbl8.size (fun j e => by cases e; omega)
  obtain ⟨z0, z1, z2, z3, z4, z5, z6, z7⟩ := a8.facts
  simp only [noA] at z0 z1 z2 z3
  have HV8 := Lib.hid hV8
  have HBM8 := Lib.hid hbm8
  have R8 := Lib.hid (show TolB V8 (b1 + 1) 0 noA false from row_belowQ R4.out hbm8)
  have S8 := Lib.hid (show TolB V8 (b1 + 2) 0 noA false from row_belowQ S4.out hbm8)
  have A8 := Lib.hid a8s
  clear a8 hbl8 hV8 g8 a8s hbm8
  go_upto_region 8 with fail
  rw [HV8.out]
  clear z0 z1 z2 z3 z4 z5 z6 z7 hW8 hb8
  obtain ⟨y0, y1, y2, y3, -, -, -, -⟩ := A8.out.facts
  simp only at y0 y1 y2 y3
  obtain ⟨u0, u1, u2, u3, u4, u5⟩ := S8.out.facts
  obtain ⟨v0, v1, v2, v3, v4, v5⟩ := S8.out.free
  obtain ⟨s9, g9⟩ := S8.out.setA ⟨0, 0, 0, 0⟩
  simp only at s9 g9
  obtain ⟨V9, hV9⟩ : ∃ W, (((V8.setCell ⟨b1 + 2, 1, none⟩ (.int .i64 0)).setCell ⟨b1 + 2, 2, none⟩ (.int .i64 0)).setCell ⟨b1 + 2, 3, none⟩ (.int .i64 0)).setCell ⟨b1 + 2, 4, none⟩ (.int .i64 0) = W := ⟨_, rfl⟩
  rw [hV9] at s9 g9
  have HV9 := Lib.hid hV9
  have S9 := Lib.hid s9
  have G9 := Lib.hid g9
  have R9 := Lib.hid (show TolB V9 (b1 + 1) 0 noA false from row_grownQ R8.out g9 (by omega))
  clear s9 g9 hV9
  go_upto_region 9 with fail
  rw [HV9.out]
  clear u0 u1 u2 u3 u4 u5 v0 v1 v2 v3 v4 v5 y0 y1 y2 y3
  obtain ⟨u0, u1, u2, u3, u4, u5⟩ := S9.out.facts
  obtain ⟨v0, v1, v2, v3, v4, v5⟩ := S9.out.free
  simp only [] at u0 u1 u2 u3 u4 u5
  have sX := S9.out.setI false
  have gX := grown_setQ V9 (b1 + 2) 5 (.bool false)
  obtain ⟨VX, hVX⟩ : ∃ W, V9.setCell ⟨b1 + 2, 5, none⟩ (.bool false) = W := ⟨_, rfl⟩
  rw [hVX] at sX gX
  have HVX := Lib.hid hVX
  have SX := Lib.hid sX
  have GX := Lib.hid gX
  have RX := Lib.hid (show TolB VX (b1 + 1) 0 noA false from row_grownQ R9.out gX (by omega))
  clear sX gX hVX
  go_upto_region 13 with fail
  rw [HVX.out]
  clear u0 u1 u2 u3 u4 u5 v0 v1 v2 v3 v4 v5
  obtain ⟨p0, p1, p2, p3, p4, p5⟩ := RX.out.facts
  obtain ⟨f0, f1, f2, f3, f4, f5⟩ := RX.out.free
  obtain ⟨u0, u1, u2, u3, u4, u5⟩ := SX.out.facts
  simp only [noA] at p0 p1 p2 p3 p4 p5 u0 u1 u2 u3 u4 u5
  go_wp2_with fail
  obtain ⟨r9, g9⟩ := RX.out.all 0 0 0 0 0 false
  refine bodyPost_ret (results_cell_row rfl _ _ (b1 + 1) 38 _ (0, 0) _ rfl r9 Tryd.underlying38 rfl (by kernel_rfl)) rfl ?_
  have hbz := (((HB4.out).trans (HBM8.out.mono (HB4.out).size)).grown G9.out (by have := (HB4.out).size; have := HBM8.out.size; omega) (fun j e => by cases e; have := HBX.out.lt; omega)).grown GX.out (by have := (HB4.out).size; have := HBM8.out.size; have := G9.out.size; omega) (fun j e => by cases e; have := HBX.out.lt; omega)
  exact ⟨rfl, hbz.grown g9 (by have := hbz.size; omega) (fun j e => by cases e; have := HBX.out.lt; omega)⟩
set_option maxRecDepth 100000 in
set_option maxHeartbeats 16000000 in
theorem did_step_two (w0 : World) {w : World} {qb hb ab room : Nat} {v : Value} {y : QX} {R : List QX} {L : List AX} {n : Nat} {nm : List FX} {M : Bs → Nat} {nv cv : Value} {mb k : Nat} {D : DataW Unit} {H : List (Nat × List DX)} (h : QueueAt w0.heap.size w qb hb ab room v (y :: R) L) (hh : HistAt w0.heap.size w hb n nm M nv cv mb k D H) (hne : ab ≠ mb) (h0 : Below w0.heap.size w0 w) (hn : n < 100000) (hT : R.length ≤ 100000) (hL : L.length ≤ 100000) (hm : MaxOk w0)
    (hid : keyOf Tryd.prog 3 (.int .i64 y.id) = some (.int .i64 y.id)) (x : QX) : Calls Tryd.prog 12 #[.pointer (some ⟨qb, 0, none⟩), doV 2 x] w fun e w' => ∃ (a : AX) (v' : Value), e = .returned (told 0 a true) ∧ QueueAt w0.heap.size w' qb hb ab room v' R (a :: L) ∧ StepQ w0 hb n nm M mb H y true a w' ∧ Below w0.heap.size w w' ∧ QFrame qb v w w' ∧ v'.ownBlock = v.ownBlock := by
  have HQ := Lib.hid h
  have HH := Lib.hid hh
  have H0 := Lib.hid h0
  have HM := Lib.hid hm
  have HNE := Lib.hid hne
  clear h hh h0 hm hne
  obtain ⟨id, bs, A, c, l⟩ := x
  unfold doV told
  simp only
  obtain ⟨b1, hb1⟩ : ∃ b, w.heap.size = b := ⟨_, rfl⟩
  obtain ⟨n0, hn0⟩ : ∃ n, l.length = n := ⟨_, rfl⟩
  obtain ⟨W1, hW1⟩ : ∃ W, w.alloc (.cells #[.int .i64 2, .int .i64 id, .int .i64 bs, .slice A n0 c] 44) = W := ⟨_, rfl⟩
  have s1 : W1.heap.size = b1 + 1 := by rw [← hW1, ← hb1]; simp
  obtain ⟨W2, hW2⟩ : ∃ W, W1.alloc (.cells #[.int .i64 0, .int .i64 0, .int .i64 0, .int .i64 0, .int .i64 0, .bool false] 38) = W := ⟨_, rfl⟩
  have s2 : W2.heap.size = b1 + 2 := by rw [← hW2]; simp [s1]
  obtain ⟨W3, hW3⟩ : ∃ W, W2.alloc (.cells #[.int .i64 0, .int .i64 0, .int .i64 0, .int .i64 0, .int .i64 0, .bool false] 38) = W := ⟨_, rfl⟩
  have e1 : Below w.heap.size w W1 := by rw [← hW1]; exact (Below.refl _ _).alloc (Nat.le_refl _) _
  have e2 : Below W1.heap.size W1 W2 := by rw [← hW2]; exact (Below.refl _ _).alloc (Nat.le_refl _) _
  have e3 : Below W2.heap.size W2 W3 := by rw [← hW3]; exact (Below.refl _ _).alloc (Nat.le_refl _) _
  have hd1 : DoB W1 b1 2 ⟨id, bs, A, c, l⟩ := by unfold DoB; rw [← hW1, ← hb1, hn0]; exact heap_alloc_new _ _
  have hr2 : TolB W2 (b1 + 1) 0 noA false := by unfold TolB; rw [← hW2, ← s1]; exact heap_alloc_new _ _
  have hs3 : TolB W3 (b1 + 2) 0 noA false := by unfold TolB; rw [← hW3, ← s2]; exact heap_alloc_new _ _
  have hbx : Boxes w W3 b1 2 ⟨id, bs, A, c, l⟩ := ⟨(e1.trans (e2.mono e1.size)).trans (e3.mono (by have := e1.size; omega)), Nat.le_of_eq hb1, row_belowQ (row_belowQ hd1 e2) e3, row_belowQ hr2 e3, hs3⟩
  have HBX := Lib.hid hbx
  have HB1 := Lib.hid hb1
  have HN0 := Lib.hid hn0
  have HW1 := Lib.hid hW1
  have HW2 := Lib.hid hW2
  have HW3 := Lib.hid hW3
  have HS1 := Lib.hid s1
  have HS2 := Lib.hid s2
  clear e1 e2 e3 hd1 hr2 hs3 hbx hW1 hW2 hW3 hb1 s1 s2
  rw [hn0]
  have HHN := Lib.hid hn0
  clear hn0
  obtain ⟨x0, x1, x2, x3⟩ := HBX.out.d.facts
  simp only at x0 x1 x2 x3
  rw [HN0.out] at x3
  obtain ⟨y0, y1, y2, y3, y4, y5⟩ := HBX.out.s.facts
  obtain ⟨v0, v1, v2, v3, v4, v5⟩ := HBX.out.s.free
  simp only [noA] at y0 y1 y2 y3 y4 y5
  have hbw := H0.out.trans (HBX.out.bel.mono H0.out.size)
  have HST := Lib.hid (step_any w0 (HQ.out.below HBX.out.bel) (HH.out.below HBX.out.bel) HNE.out hbw true hn hT hL HM.out hid)
  clear hbw hid
  go_enter Tryd.func12, Tryd.ntmps12
  go_upto_region 2 with fail
  rw [HB1.out, HW1.out, HW2.out, HW3.out, show b1 + 1 + 1 = b1 + 2 from rfl]
  go_wp2_with fail
  refine HST.out.mono ?_
  rintro e w4 ⟨a, vv4, rfl, hq4, hst4, hbw4, hf4, hvv4⟩
  obtain ⟨i0, i1, i2, i3⟩ := a
  simp only [AX.v]
  have hnq : ∀ g E, TolB W3 g E noA false → g ≠ qb := fun g E hg e => by
    unfold TolB at hg
    rw [e, (HQ.out.below HBX.out.bel).heap] at hg; cases hg
  have hnv : ∀ g E, TolB W3 g E noA false → v.ownBlock ≠ some g := fun g E hg e => by
    obtain ⟨_, cur2, hy⟩ := (HQ.out.below HBX.out.bel).waits.far e
    unfold TolB at hg
    rw [hy] at hg; cases hg
  have R4 := Lib.hid (show TolB w4 (b1 + 1) 0 noA false from (hf4.cells _ _ _ (by decide) (hnq _ _ HBX.out.r) (hnv _ _ HBX.out.r) HBX.out.r).trans HBX.out.r)
  have S4 := Lib.hid (show TolB w4 (b1 + 2) 0 noA false from (hf4.cells _ _ _ (by decide) (hnq _ _ HBX.out.s) (hnv _ _ HBX.out.s) HBX.out.s).trans HBX.out.s)
  have HQ4 := Lib.hid hq4
  have HS4 := Lib.hid hst4
  have HV4 := Lib.hid hvv4
  have HF4 := Lib.hid (QFrame.ahead HBX.out.bel hf4)
  have HBW4 := Lib.hid ((HBX.out.bel.mono H0.out.size).trans hbw4)
  have HSZ4 := Lib.hid (Nat.le_trans HBX.out.bel.size hf4.size)
  clear hnq hnv hq4 hst4 hbw4 hf4 hvv4 v0 v1 v2 v3 v4 v5 y0 y1 y2 y3 y4 y5
  obtain ⟨b8, hb8⟩ : ∃ b, w4.heap.size = b := ⟨_, rfl⟩
  obtain ⟨W8, hW8⟩ : ∃ W, w4.alloc (.cells #[.int .i64 0, .int .i64 0, .int .i64 0, .int .i64 0] 36) = W := ⟨_, rfl⟩
  have a8 : AnsB W8 b8 noA := by unfold AnsB; rw [← hW8, ← hb8]; exact heap_alloc_new _ _
  have hbl8 : Below w4.heap.size w4 W8 := by rw [← hW8]; exact (Below.refl _ _).alloc (Nat.le_refl _) _
  obtain ⟨a8s, g8⟩ := a8.store ⟨i0, i1, i2, i3⟩
  simp only at a8s g8
  obtain ⟨V8, hV8⟩ : ∃ W, (((W8.setCell ⟨b8, 0, none⟩ (.int .i64 i0)).setCell ⟨b8, 1, none⟩ (.int .i64 i1)).setCell ⟨b8, 2, none⟩ (.int .i64 i2)).setCell ⟨b8, 3, none⟩ (.int .i64 i3) = W := ⟨_, rfl⟩
  rw [hV8] at a8s g8
  have hbm8 : Below w4.heap.size w4 V8 := hbl8.grown g8 hbl8.size (fun j e => by cases e; omega)
  obtain ⟨z0, z1, z2, z3, z4, z5, z6, z7⟩ := a8.facts
  simp only [noA] at z0 z1 z2 z3
  have HV8 := Lib.hid hV8
  have HBM8 := Lib.hid hbm8
  have R8 := Lib.hid (show TolB V8 (b1 + 1) 0 noA false from row_belowQ R4.out hbm8)
  have S8 := Lib.hid (show TolB V8 (b1 + 2) 0 noA false from row_belowQ S4.out hbm8)
  have A8 := Lib.hid a8s
  clear a8 hbl8 hV8 g8 a8s hbm8
  go_upto_region 8 with fail
  rw [HV8.out]
  clear z0 z1 z2 z3 z4 z5 z6 z7 hW8 hb8
  obtain ⟨y0, y1, y2, y3, -, -, -, -⟩ := A8.out.facts
  simp only at y0 y1 y2 y3
  obtain ⟨u0, u1, u2, u3, u4, u5⟩ := S8.out.facts
  obtain ⟨v0, v1, v2, v3, v4, v5⟩ := S8.out.free
  obtain ⟨s9, g9⟩ := S8.out.setA ⟨i0, i1, i2, i3⟩
  simp only at s9 g9
  obtain ⟨V9, hV9⟩ : ∃ W, (((V8.setCell ⟨b1 + 2, 1, none⟩ (.int .i64 i0)).setCell ⟨b1 + 2, 2, none⟩ (.int .i64 i1)).setCell ⟨b1 + 2, 3, none⟩ (.int .i64 i2)).setCell ⟨b1 + 2, 4, none⟩ (.int .i64 i3) = W := ⟨_, rfl⟩
  rw [hV9] at s9 g9
  have HV9 := Lib.hid hV9
  have S9 := Lib.hid s9
  have G9 := Lib.hid g9
  have R9 := Lib.hid (show TolB V9 (b1 + 1) 0 noA false from row_grownQ R8.out g9 (by omega))
  clear s9 g9 hV9
  go_upto_region 9 with fail
  rw [HV9.out]
  clear u0 u1 u2 u3 u4 u5 v0 v1 v2 v3 v4 v5 y0 y1 y2 y3
  obtain ⟨u0, u1, u2, u3, u4, u5⟩ := S9.out.facts
  obtain ⟨v0, v1, v2, v3, v4, v5⟩ := S9.out.free
  simp only [] at u0 u1 u2 u3 u4 u5
  have sX := S9.out.setI true
  have gX := grown_setQ V9 (b1 + 2) 5 (.bool true)
  obtain ⟨VX, hVX⟩ : ∃ W, V9.setCell ⟨b1 + 2, 5, none⟩ (.bool true) = W := ⟨_, rfl⟩
  rw [hVX] at sX gX
  have HVX := Lib.hid hVX
  have SX := Lib.hid sX
  have GX := Lib.hid gX
  have RX := Lib.hid (show TolB VX (b1 + 1) 0 noA false from row_grownQ R9.out gX (by omega))
  clear sX gX hVX
  go_upto_region 13 with fail
  rw [HVX.out]
  clear u0 u1 u2 u3 u4 u5 v0 v1 v2 v3 v4 v5
  obtain ⟨p0, p1, p2, p3, p4, p5⟩ := RX.out.facts
  obtain ⟨f0, f1, f2, f3, f4, f5⟩ := RX.out.free
  obtain ⟨u0, u1, u2, u3, u4, u5⟩ := SX.out.facts
  simp only [noA] at p0 p1 p2 p3 p4 p5 u0 u1 u2 u3 u4 u5
  go_wp2_with fail
  obtain ⟨r9, g9⟩ := RX.out.all 0 i0 i1 i2 i3 true
  refine bodyPost_ret (results_cell_row rfl _ _ (b1 + 1) 38 _ (0, 0) _ rfl r9 Tryd.underlying38 rfl (by kernel_rfl)) rfl ?_
  have hz := HSZ4.out
  have hl := HBX.out.lt
  have hbz : Below w.heap.size w4 _ := (((HBM8.out.mono hz).grown G9.out (Nat.le_trans hz HBM8.out.size) (fun j e => by cases e; omega)).grown GX.out (Nat.le_trans hz (Nat.le_trans HBM8.out.size G9.out.size)) (fun j e => by cases e; omega)).grown g9 (Nat.le_trans hz (Nat.le_trans HBM8.out.size (Nat.le_trans G9.out.size GX.out.size))) (fun j e => by cases e; omega)
  exact ⟨⟨i0, i1, i2, i3⟩, vv4, rfl, (((HQ4.out.below HBM8.out).told S8.out G9.out).told S9.out GX.out).told RX.out g9, HS4.out.keep (fun hh => (((hh.below HBM8.out).told S8.out G9.out).told S9.out GX.out).told RX.out g9), HBW4.out.trans (hbz.mono H0.out.size), HF4.out.behind (Nat.le_refl _) hbz, HV4.out⟩
set_option maxRecDepth 100000 in
set_option maxHeartbeats 16000000 in
theorem did_step_three (w0 : World) {w : World} {qb hb ab room : Nat} {v : Value} {y : QX} {R : List QX} {L : List AX} {n : Nat} {nm : List FX} {M : Bs → Nat} {nv cv : Value} {mb k : Nat} {D : DataW Unit} {H : List (Nat × List DX)} (h : QueueAt w0.heap.size w qb hb ab room v (y :: R) L) (hh : HistAt w0.heap.size w hb n nm M nv cv mb k D H) (hne : ab ≠ mb) (h0 : Below w0.heap.size w0 w) (hn : n < 100000) (hT : R.length ≤ 100000) (hL : L.length ≤ 100000) (hm : MaxOk w0)
    (hid : keyOf Tryd.prog 3 (.int .i64 y.id) = some (.int .i64 y.id)) (x : QX) : Calls Tryd.prog 12 #[.pointer (some ⟨qb, 0, none⟩), doV 3 x] w fun e w' => ∃ (a : AX) (v' : Value), e = .returned (told 0 a true) ∧ QueueAt w0.heap.size w' qb hb ab room v' R (a :: L) ∧ StepQ w0 hb n nm M mb H y false a w' ∧ Below w0.heap.size w w' ∧ QFrame qb v w w' ∧ v'.ownBlock = v.ownBlock := by
  have HQ := Lib.hid h
  have HH := Lib.hid hh
  have H0 := Lib.hid h0
  have HM := Lib.hid hm
  have HNE := Lib.hid hne
  clear h hh h0 hm hne
  obtain ⟨id, bs, A, c, l⟩ := x
  unfold doV told
  simp only
  obtain ⟨b1, hb1⟩ : ∃ b, w.heap.size = b := ⟨_, rfl⟩
  obtain ⟨n0, hn0⟩ : ∃ n, l.length = n := ⟨_, rfl⟩
  obtain ⟨W1, hW1⟩ : ∃ W, w.alloc (.cells #[.int .i64 3, .int .i64 id, .int .i64 bs, .slice A n0 c] 44) = W := ⟨_, rfl⟩
  have s1 : W1.heap.size = b1 + 1 := by rw [← hW1, ← hb1]; simp
  obtain ⟨W2, hW2⟩ : ∃ W, W1.alloc (.cells #[.int .i64 0, .int .i64 0, .int .i64 0, .int .i64 0, .int .i64 0, .bool false] 38) = W := ⟨_, rfl⟩
  have s2 : W2.heap.size = b1 + 2 := by rw [← hW2]; simp [s1]
  obtain ⟨W3, hW3⟩ : ∃ W, W2.alloc (.cells #[.int .i64 0, .int .i64 0, .int .i64 0, .int .i64 0, .int .i64 0, .bool false] 38) = W := ⟨_, rfl⟩
  have e1 : Below w.heap.size w W1 := by rw [← hW1]; exact (Below.refl _ _).alloc (Nat.le_refl _) _
  have e2 : Below W1.heap.size W1 W2 := by rw [← hW2]; exact (Below.refl _ _).alloc (Nat.le_refl _) _
  have e3 : Below W2.heap.size W2 W3 := by rw [← hW3]; exact (Below.refl _ _).alloc (Nat.le_refl _) _
  have hd1 : DoB W1 b1 3 ⟨id, bs, A, c, l⟩ := by unfold DoB; rw [← hW1, ← hb1, hn0]; exact heap_alloc_new _ _
  have hr2 : TolB W2 (b1 + 1) 0 noA false := by unfold TolB; rw [← hW2, ← s1]; exact heap_alloc_new _ _
  have hs3 : TolB W3 (b1 + 2) 0 noA false := by unfold TolB; rw [← hW3, ← s2]; exact heap_alloc_new _ _
  have hbx : Boxes w W3 b1 3 ⟨id, bs, A, c, l⟩ := ⟨(e1.trans (e2.mono e1.size)).trans (e3.mono (by have := e1.size; omega)), Nat.le_of_eq hb1, row_belowQ (row_belowQ hd1 e2) e3, row_belowQ hr2 e3, hs3⟩
  have HBX := Lib.hid hbx
  have HB1 := Lib.hid hb1
  have HN0 := Lib.hid hn0
  have HW1 := Lib.hid hW1
  have HW2 := Lib.hid hW2
  have HW3 := Lib.hid hW3
  have HS1 := Lib.hid s1
  have HS2 := Lib.hid s2
  clear e1 e2 e3 hd1 hr2 hs3 hbx hW1 hW2 hW3 hb1 s1 s2
  rw [hn0]
  have HHN := Lib.hid hn0
  clear hn0
  obtain ⟨x0, x1, x2, x3⟩ := HBX.out.d.facts
  simp only at x0 x1 x2 x3
  rw [HN0.out] at x3
  obtain ⟨y0, y1, y2, y3, y4, y5⟩ := HBX.out.s.facts
  obtain ⟨v0, v1, v2, v3, v4, v5⟩ := HBX.out.s.free
  simp only [noA] at y0 y1 y2 y3 y4 y5
  have hbw := H0.out.trans (HBX.out.bel.mono H0.out.size)
  have HST := Lib.hid (step_any w0 (HQ.out.below HBX.out.bel) (HH.out.below HBX.out.bel) HNE.out hbw false hn hT hL HM.out hid)
  clear hbw hid
  go_enter Tryd.func12, Tryd.ntmps12
  go_upto_region 2 with fail
  rw [HB1.out, HW1.out, HW2.out, HW3.out, show b1 + 1 + 1 = b1 + 2 from rfl]
  go_wp2_with fail
  refine HST.out.mono ?_
  rintro e w4 ⟨a, vv4, rfl, hq4, hst4, hbw4, hf4, hvv4⟩
  obtain ⟨i0, i1, i2, i3⟩ := a
  simp only [AX.v]
  have hnq : ∀ g E, TolB W3 g E noA false → g ≠ qb := fun g E hg e => by
    unfold TolB at hg
    rw [e, (HQ.out.below HBX.out.bel).heap] at hg; cases hg
  have hnv : ∀ g E, TolB W3 g E noA false → v.ownBlock ≠ some g := fun g E hg e => by
    obtain ⟨_, cur2, hy⟩ := (HQ.out.below HBX.out.bel).waits.far e
    unfold TolB at hg
    rw [hy] at hg; cases hg
  have R4 := Lib.hid (show TolB w4 (b1 + 1) 0 noA false from (hf4.cells _ _ _ (by decide) (hnq _ _ HBX.out.r) (hnv _ _ HBX.out.r) HBX.out.r).trans HBX.out.r)
  have S4 := Lib.hid (show TolB w4 (b1 + 2) 0 noA false from (hf4.cells _ _ _ (by decide) (hnq _ _ HBX.out.s) (hnv _ _ HBX.out.s) HBX.out.s).trans HBX.out.s)
  have HQ4 := Lib.hid hq4
  have HS4 := Lib.hid hst4
  have HV4 := Lib.hid hvv4
  have HF4 := Lib.hid (QFrame.ahead HBX.out.bel hf4)
  have HBW4 := Lib.hid ((HBX.out.bel.mono H0.out.size).trans hbw4)
  have HSZ4 := Lib.hid (Nat.le_trans HBX.out.bel.size hf4.size)
  clear hnq hnv hq4 hst4 hbw4 hf4 hvv4 v0 v1 v2 v3 v4 v5 y0 y1 y2 y3 y4 y5
  obtain ⟨b8, hb8⟩ : ∃ b, w4.heap.size = b := ⟨_, rfl⟩
  obtain ⟨W8, hW8⟩ : ∃ W, w4.alloc (.cells #[.int .i64 0, .int .i64 0, .int .i64 0, .int .i64 0] 36) = W := ⟨_, rfl⟩
  have a8 : AnsB W8 b8 noA := by unfold AnsB; rw [← hW8, ← hb8]; exact heap_alloc_new _ _
  have hbl8 : Below w4.heap.size w4 W8 := by rw [← hW8]; exact (Below.refl _ _).alloc (Nat.le_refl _) _
  obtain ⟨a8s, g8⟩ := a8.store ⟨i0, i1, i2, i3⟩
  simp only at a8s g8
  obtain ⟨V8, hV8⟩ : ∃ W, (((W8.setCell ⟨b8, 0, none⟩ (.int .i64 i0)).setCell ⟨b8, 1, none⟩ (.int .i64 i1)).setCell ⟨b8, 2, none⟩ (.int .i64 i2)).setCell ⟨b8, 3, none⟩ (.int .i64 i3) = W := ⟨_, rfl⟩
  rw [hV8] at a8s g8
  have hbm8 : Below w4.heap.size w4 V8 := hbl8.grown g8 hbl8.size (fun j e => by cases e; omega)
  obtain ⟨z0, z1, z2, z3, z4, z5, z6, z7⟩ := a8.facts
  simp only [noA] at z0 z1 z2 z3
  have HV8 := Lib.hid hV8
  have HBM8 := Lib.hid hbm8
  have R8 := Lib.hid (show TolB V8 (b1 + 1) 0 noA false from row_belowQ R4.out hbm8)
  have S8 := Lib.hid (show TolB V8 (b1 + 2) 0 noA false from row_belowQ S4.out hbm8)
  have A8 := Lib.hid a8s
  clear a8 hbl8 hV8 g8 a8s hbm8
  go_upto_region 8 with fail
  rw [HV8.out]
  clear z0 z1 z2 z3 z4 z5 z6 z7 hW8 hb8
  obtain ⟨y0, y1, y2, y3, -, -, -, -⟩ := A8.out.facts
  simp only at y0 y1 y2 y3
  obtain ⟨u0, u1, u2, u3, u4, u5⟩ := S8.out.facts
  obtain ⟨v0, v1, v2, v3, v4, v5⟩ := S8.out.free
  obtain ⟨s9, g9⟩ := S8.out.setA ⟨i0, i1, i2, i3⟩
  simp only at s9 g9
  obtain ⟨V9, hV9⟩ : ∃ W, (((V8.setCell ⟨b1 + 2, 1, none⟩ (.int .i64 i0)).setCell ⟨b1 + 2, 2, none⟩ (.int .i64 i1)).setCell ⟨b1 + 2, 3, none⟩ (.int .i64 i2)).setCell ⟨b1 + 2, 4, none⟩ (.int .i64 i3) = W := ⟨_, rfl⟩
  rw [hV9] at s9 g9
  have HV9 := Lib.hid hV9
  have S9 := Lib.hid s9
  have G9 := Lib.hid g9
  have R9 := Lib.hid (show TolB V9 (b1 + 1) 0 noA false from row_grownQ R8.out g9 (by omega))
  clear s9 g9 hV9
  go_upto_region 9 with fail
  rw [HV9.out]
  clear u0 u1 u2 u3 u4 u5 v0 v1 v2 v3 v4 v5 y0 y1 y2 y3
  obtain ⟨u0, u1, u2, u3, u4, u5⟩ := S9.out.facts
  obtain ⟨v0, v1, v2, v3, v4, v5⟩ := S9.out.free
  simp only [] at u0 u1 u2 u3 u4 u5
  have sX := S9.out.setI true
  have gX := grown_setQ V9 (b1 + 2) 5 (.bool true)
  obtain ⟨VX, hVX⟩ : ∃ W, V9.setCell ⟨b1 + 2, 5, none⟩ (.bool true) = W := ⟨_, rfl⟩
  rw [hVX] at sX gX
  have HVX := Lib.hid hVX
  have SX := Lib.hid sX
  have GX := Lib.hid gX
  have RX := Lib.hid (show TolB VX (b1 + 1) 0 noA false from row_grownQ R9.out gX (by omega))
  clear sX gX hVX
  go_upto_region 13 with fail
  rw [HVX.out]
  clear u0 u1 u2 u3 u4 u5 v0 v1 v2 v3 v4 v5
  obtain ⟨p0, p1, p2, p3, p4, p5⟩ := RX.out.facts
  obtain ⟨f0, f1, f2, f3, f4, f5⟩ := RX.out.free
  obtain ⟨u0, u1, u2, u3, u4, u5⟩ := SX.out.facts
  simp only [noA] at p0 p1 p2 p3 p4 p5 u0 u1 u2 u3 u4 u5
  go_wp2_with fail
  obtain ⟨r9, g9⟩ := RX.out.all 0 i0 i1 i2 i3 true
  refine bodyPost_ret (results_cell_row rfl _ _ (b1 + 1) 38 _ (0, 0) _ rfl r9 Tryd.underlying38 rfl (by kernel_rfl)) rfl ?_
  have hz := HSZ4.out
  have hl := HBX.out.lt
  have hbz : Below w.heap.size w4 _ := (((HBM8.out.mono hz).grown G9.out (Nat.le_trans hz HBM8.out.size) (fun j e => by cases e; omega)).grown GX.out (Nat.le_trans hz (Nat.le_trans HBM8.out.size G9.out.size)) (fun j e => by cases e; omega)).grown g9 (Nat.le_trans hz (Nat.le_trans HBM8.out.size (Nat.le_trans G9.out.size GX.out.size))) (fun j e => by cases e; omega)
  exact ⟨⟨i0, i1, i2, i3⟩, vv4, rfl, (((HQ4.out.below HBM8.out).told S8.out G9.out).told S9.out GX.out).told RX.out g9, HS4.out.keep (fun hh => (((hh.below HBM8.out).told S8.out G9.out).told S9.out GX.out).told RX.out g9), HBW4.out.trans (hbz.mono H0.out.size), HF4.out.behind (Nat.le_refl _) hbz, HV4.out⟩
set_option maxRecDepth 100000 in
set_option maxHeartbeats 16000000 in
theorem did_sub {base : Nat} {w : World} {qb hb ab room : Nat} {v : Value} {R : List QX} {L : List AX} {n : Nat} {nm : List FX} {M : Bs → Nat} {nv cv : Value} {mb k : Nat} {D : DataW Unit} {H : List (Nat × List DX)} (h : QueueAt base w qb hb ab room v R L) (hh : HistAt base w hb n nm M nv cv mb k D H) (x : QX) (hbw : base ≤ w.heap.size) (hx : DelsAt w x.A x.c x.l) (hs : SmallD x.l) (hR : R.length ≤ 100000)
    (hid : keyOf Tryd.prog 3 (.int .i64 x.id) = some (.int .i64 x.id)) : Calls Tryd.prog 12 #[.pointer (some ⟨qb, 0, none⟩), doV 1 x] w fun e w' => e = .returned (told (subE n room R L x) noA false) ∧
      ((subE n room R L x ≠ 0 ∧ Below w.heap.size w w') ∨
       (subE n room R L x = 0 ∧ ∃ v' y, QueueAt base w' qb hb ab room v' (R ++ [y]) L ∧ (y.id = x.id ∧ y.base = x.base ∧ y.l.map DX.dl = x.l.map DX.dl) ∧ QTurn (fun j => j = qb ∨ v.ownBlock = some j) w w' ∧ ∀ j, v'.ownBlock = some j → v.ownBlock = some j ∨ w.heap.size ≤ j)) := by
  have HQ := Lib.hid h
  have HH := Lib.hid hh
  have HX := Lib.hid hx
  clear h hh hx
  obtain ⟨id, bs, A, c, l⟩ := x
  unfold doV told
  simp only
  obtain ⟨se, hse⟩ : ∃ s, subE n room R L ⟨id, bs, A, c, l⟩ = s := ⟨_, rfl⟩
  rw [hse]
  have HSE := Lib.hid hse
  clear hse
  simp only at hs hid HX
  obtain ⟨b1, hb1⟩ : ∃ b, w.heap.size = b := ⟨_, rfl⟩
  obtain ⟨n0, hn0⟩ : ∃ n, l.length = n := ⟨_, rfl⟩
  obtain ⟨W1, hW1⟩ : ∃ W, w.alloc (.cells #[.int .i64 1, .int .i64 id, .int .i64 bs, .slice A n0 c] 44) = W := ⟨_, rfl⟩
  have s1 : W1.heap.size = b1 + 1 := by rw [← hW1, ← hb1]; simp
  obtain ⟨W2, hW2⟩ : ∃ W, W1.alloc (.cells #[.int .i64 0, .int .i64 0, .int .i64 0, .int .i64 0, .int .i64 0, .bool false] 38) = W := ⟨_, rfl⟩
  have s2 : W2.heap.size = b1 + 2 := by rw [← hW2]; simp [s1]
  obtain ⟨W3, hW3⟩ : ∃ W, W2.alloc (.cells #[.int .i64 0, .int .i64 0, .int .i64 0, .int .i64 0, .int .i64 0, .bool false] 38) = W := ⟨_, rfl⟩
  have e1 : Below w.heap.size w W1 := by rw [← hW1]; exact (Below.refl _ _).alloc (Nat.le_refl _) _
  have e2 : Below W1.heap.size W1 W2 := by rw [← hW2]; exact (Below.refl _ _).alloc (Nat.le_refl _) _
  have e3 : Below W2.heap.size W2 W3 := by rw [← hW3]; exact (Below.refl _ _).alloc (Nat.le_refl _) _
  have hd1 : DoB W1 b1 1 ⟨id, bs, A, c, l⟩ := by unfold DoB; rw [← hW1, ← hb1, hn0]; exact heap_alloc_new _ _
  have hr2 : TolB W2 (b1 + 1) 0 noA false := by unfold TolB; rw [← hW2, ← s1]; exact heap_alloc_new _ _
  have hs3 : TolB W3 (b1 + 2) 0 noA false := by unfold TolB; rw [← hW3, ← s2]; exact heap_alloc_new _ _
  have hbx : Boxes w W3 b1 1 ⟨id, bs, A, c, l⟩ := ⟨(e1.trans (e2.mono e1.size)).trans (e3.mono (by have := e1.size; omega)), Nat.le_of_eq hb1, row_belowQ (row_belowQ hd1 e2) e3, row_belowQ hr2 e3, hs3⟩
  have HBX := Lib.hid hbx
  have HB1 := Lib.hid hb1
  have HN0 := Lib.hid hn0
  have HW1 := Lib.hid hW1
  have HW2 := Lib.hid hW2
  have HW3 := Lib.hid hW3
  have HS1 := Lib.hid s1
  have HS2 := Lib.hid s2
  clear e1 e2 e3 hd1 hr2 hs3 hbx hW1 hW2 hW3 hb1 s1 s2
  rw [hn0]
  have HHN := Lib.hid hn0
  clear hn0
  obtain ⟨x0, x1, x2, x3⟩ := HBX.out.d.facts
  simp only at x0 x1 x2 x3
  rw [HN0.out] at x3
  obtain ⟨y0, y1, y2, y3, y4, y5⟩ := HBX.out.s.facts
  obtain ⟨v0, v1, v2, v3, v4, v5⟩ := HBX.out.s.free
  simp only [noA] at y0 y1 y2 y3 y4 y5
  have hsub := submit_any (HQ.out.below HBX.out.bel) (HH.out.below HBX.out.bel) ⟨id, bs, A, c, l⟩ (Nat.le_trans hbw HBX.out.bel.size) (HX.out.below HBX.out.bel) hs hR hid
  unfold QX.v at hsub
  simp only [HN0.out] at hsub
  have HSUB := Lib.hid hsub
  clear hsub hs hid
  go_enter Tryd.func12, Tryd.ntmps12
  go_upto_region 2 with fail
  rw [HB1.out, HW1.out, HW2.out, HW3.out, show b1 + 1 + 1 = b1 + 2 from rfl]
  go_wp2_with fail
  refine HSUB.out.mono ?_
  rintro e w4 ⟨rfl, hp4⟩
  rw [HSE.out] at hp4 ⊢
  have hturn : ∀ g E, TolB W3 g E noA false → TolB w4 g E noA false := fun g E hg => by
    rcases hp4 with ⟨_, hb4⟩ | ⟨_, v', y, _, _, ht, _⟩
    · exact row_belowQ hg hb4
    · refine (ht.block g (Array.getElem?_eq_some_iff.1 hg).1 (fun e => ?_)).trans hg
      have hg' := hg
      unfold TolB at hg'
      rcases e with e | e
      · rw [e, (HQ.out.below HBX.out.bel).heap] at hg'; cases hg'
      · obtain ⟨_, cur2, hy⟩ := (HQ.out.below HBX.out.bel).waits.far e
        rw [hy] at hg'; cases hg'
  have R4 := Lib.hid (hturn _ _ HBX.out.r)
  have S4 := Lib.hid (hturn _ _ HBX.out.s)
  have HP4 := Lib.hid hp4
  clear hturn hp4 v0 v1 v2 v3 v4 v5 y0 y1 y2 y3 y4 y5 HSUB
  obtain ⟨u0, u1, u2, u3, u4, u5⟩ := S4.out.facts
  obtain ⟨v0, v1, v2, v3, v4, v5⟩ := S4.out.free
  simp only [noA] at u0 u1 u2 u3 u4 u5
  have sX := S4.out.setE se
  have gX := grown_setQ w4 (b1 + 2) 0 (.int .i64 se)
  obtain ⟨VX, hVX⟩ : ∃ W, w4.setCell ⟨b1 + 2, 0, none⟩ (.int .i64 se) = W := ⟨_, rfl⟩
  rw [hVX] at sX gX
  have HVX := Lib.hid hVX
  have SX := Lib.hid sX
  have GX := Lib.hid gX
  have RX := Lib.hid (show TolB VX (b1 + 1) 0 noA false from row_grownQ R4.out gX (by omega))
  clear sX gX hVX
  go_upto_region 13 with fail
  rw [HVX.out]
  clear u0 u1 u2 u3 u4 u5 v0 v1 v2 v3 v4 v5
  obtain ⟨p0, p1, p2, p3, p4, p5⟩ := RX.out.facts
  obtain ⟨f0, f1, f2, f3, f4, f5⟩ := RX.out.free
  obtain ⟨u0, u1, u2, u3, u4, u5⟩ := SX.out.facts
  simp only [noA] at p0 p1 p2 p3 p4 p5 u0 u1 u2 u3 u4 u5
  go_wp2_with fail
  obtain ⟨r9, g9⟩ := RX.out.all se 0 0 0 0 false
  refine bodyPost_ret (results_cell_row rfl _ _ (b1 + 1) 38 _ (0, 0) _ rfl r9 Tryd.underlying38 rfl (by kernel_rfl)) rfl ?_
  refine ⟨rfl, ?_⟩
  have hl := HBX.out.lt
  have hw3 := HBX.out.bel.size
  rcases HP4.out with ⟨h1, hb4⟩ | ⟨h1, v', y, hq4, hy, ht4, hv4⟩
  · have hz := HBX.out.bel.trans (hb4.mono hw3)
    exact .inl ⟨h1, (hz.grown GX.out hz.size (fun j e => by cases e; omega)).grown g9 (Nat.le_trans hz.size GX.out.size) (fun j e => by cases e; omega)⟩
  · have ht := (QTurn.of_below (S := fun j => j = qb ∨ v.ownBlock = some j) HBX.out.bel).trans ht4 (fun j hj _ => hj)
    have hbz : Below w.heap.size w4 _ := ((Below.refl w.heap.size w4).grown GX.out ht.size (fun j e => by cases e; omega)).grown g9 (Nat.le_trans ht.size GX.out.size) (fun j e => by cases e; omega)
    exact .inr ⟨h1, v', y, (hq4.told S4.out GX.out).told RX.out g9, hy, ht.behindQ (Nat.le_refl _) hbz, fun j e => (hv4 j e).imp (fun h => h) (fun h => Nat.le_trans hw3 h)⟩
/-- What a commit by others leaves. -/
def ComPost (w0 : World) (qb hb ab room : Nat) (v : Value) (R : List QX) (L : List AX) (n : Nat) (nm : List FX) (M : Bs → Nat) (mb : Nat) (H : List (Nat × List DX)) (l : List DX) (w : World) (E : Int) (w' : World) : Prop :=
  QueueAt w0.heap.size w' qb hb ab room v R L ∧ Below w0.heap.size w w' ∧ QFrame qb v w w' ∧
  ((E ≠ 0 ∧ (l = [] ∨ applyT (flsX nm) (l.map DX.dl) = .error E) ∧ ∃ nv cv k D, HistAt w0.heap.size w' hb n nm M nv cv mb k D H) ∨
   (E = 0 ∧ ∃ nm' nv cv k D G, (∃ f, applyT (flsX nm) (l.map DX.dl) = .ok f ∧ flsX nm' = bareT f) ∧ HistAt w0.heap.size w' hb (n + 1) nm' (fun s => if s ∈ pathsX l then n + 1 else M s) nv cv mb k D ((G, l) :: H)))
set_option maxRecDepth 100000 in
set_option maxHeartbeats 16000000 in
theorem did_com (w0 : World) {w : World} {qb hb ab room : Nat} {v : Value} {R : List QX} {L : List AX} {n : Nat} {nm : List FX} {M : Bs → Nat} {nv cv : Value} {mb k : Nat} {D : DataW Unit} {H : List (Nat × List DX)} (h : QueueAt w0.heap.size w qb hb ab room v R L) (hh : HistAt w0.heap.size w hb n nm M nv cv mb k D H) (hne : ab ≠ mb) (h0 : Below w0.heap.size w0 w) (hn : n < 100000) (x : QX) (hx : DelsAt w0 x.A x.c x.l) (hs : SmallD x.l) (hm : MaxOk w0) :
    Calls Tryd.prog 12 #[.pointer (some ⟨qb, 0, none⟩), doV 4 x] w fun e w' => ∃ E, e = .returned (told E noA false) ∧ ComPost w0 qb hb ab room v R L n nm M mb H x.l w E w' := by
  have HQ := Lib.hid h
  have HH := Lib.hid hh
  have H0 := Lib.hid h0
  have HM := Lib.hid hm
  have HX := Lib.hid hx
  have HNE := Lib.hid hne
  clear h hh h0 hm hx hne
  obtain ⟨id, bs, A, c, l⟩ := x
  unfold doV told
  simp only
  simp only at hs HX
  obtain ⟨b1, hb1⟩ : ∃ b, w.heap.size = b := ⟨_, rfl⟩
  obtain ⟨n0, hn0⟩ : ∃ n, l.length = n := ⟨_, rfl⟩
  obtain ⟨W1, hW1⟩ : ∃ W, w.alloc (.cells #[.int .i64 4, .int .i64 id, .int .i64 bs, .slice A n0 c] 44) = W := ⟨_, rfl⟩
  have s1 : W1.heap.size = b1 + 1 := by rw [← hW1, ← hb1]; simp
  obtain ⟨W2, hW2⟩ : ∃ W, W1.alloc (.cells #[.int .i64 0, .int .i64 0, .int .i64 0, .int .i64 0, .int .i64 0, .bool false] 38) = W := ⟨_, rfl⟩
  have s2 : W2.heap.size = b1 + 2 := by rw [← hW2]; simp [s1]
  obtain ⟨W3, hW3⟩ : ∃ W, W2.alloc (.cells #[.int .i64 0, .int .i64 0, .int .i64 0, .int .i64 0, .int .i64 0, .bool false] 38) = W := ⟨_, rfl⟩
  have e1 : Below w.heap.size w W1 := by rw [← hW1]; exact (Below.refl _ _).alloc (Nat.le_refl _) _
  have e2 : Below W1.heap.size W1 W2 := by rw [← hW2]; exact (Below.refl _ _).alloc (Nat.le_refl _) _
  have e3 : Below W2.heap.size W2 W3 := by rw [← hW3]; exact (Below.refl _ _).alloc (Nat.le_refl _) _
  have hd1 : DoB W1 b1 4 ⟨id, bs, A, c, l⟩ := by unfold DoB; rw [← hW1, ← hb1, hn0]; exact heap_alloc_new _ _
  have hr2 : TolB W2 (b1 + 1) 0 noA false := by unfold TolB; rw [← hW2, ← s1]; exact heap_alloc_new _ _
  have hs3 : TolB W3 (b1 + 2) 0 noA false := by unfold TolB; rw [← hW3, ← s2]; exact heap_alloc_new _ _
  have hbx : Boxes w W3 b1 4 ⟨id, bs, A, c, l⟩ := ⟨(e1.trans (e2.mono e1.size)).trans (e3.mono (by have := e1.size; omega)), Nat.le_of_eq hb1, row_belowQ (row_belowQ hd1 e2) e3, row_belowQ hr2 e3, hs3⟩
  have HBX := Lib.hid hbx
  have HB1 := Lib.hid hb1
  have HN0 := Lib.hid hn0
  have HW1 := Lib.hid hW1
  have HW2 := Lib.hid hW2
  have HW3 := Lib.hid hW3
  have HS1 := Lib.hid s1
  have HS2 := Lib.hid s2
  clear e1 e2 e3 hd1 hr2 hs3 hbx hW1 hW2 hW3 hb1 s1 s2
  rw [hn0]
  have HHN := Lib.hid hn0
  clear hn0
  obtain ⟨x0, x1, x2, x3⟩ := HBX.out.d.facts
  simp only at x0 x1 x2 x3
  rw [HN0.out] at x3
  obtain ⟨y0, y1, y2, y3, y4, y5⟩ := HBX.out.s.facts
  obtain ⟨v0, v1, v2, v3, v4, v5⟩ := HBX.out.s.free
  simp only [noA] at y0 y1 y2 y3 y4 y5
  have hw3 := H0.out.trans (HBX.out.bel.mono H0.out.size)
  have HHI := Lib.hid (qhistory_any qb hb _ _ _ W3.drew (show W3.drew.heap[qb]? = _ from (HQ.out.below HBX.out.bel).heap))
  have hcm := hcommit_any w0 hb n nm M nv cv mb k D H l A c W3.drew ((HH.out.below HBX.out.bel).below (Below.refl _ _).drew) hw3.drew hn (DelsKeep.args HX.out hw3.drew HH.out.lb) hs HM.out
  rw [HN0.out] at hcm
  have HCM := Lib.hid hcm
  have HW0 := Lib.hid hw3
  clear hcm hw3 hs
  go_enter Tryd.func12, Tryd.ntmps12
  go_upto_region 2 with fail
  rw [HB1.out, HW1.out, HW2.out, HW3.out, show b1 + 1 + 1 = b1 + 2 from rfl]
  clear v0 v1 v2 v3 v4 v5 y0 y1 y2 y3 y4 y5
  go_wp2_with fail
  refine wp_region_held_drew (S := (fun w' => w'.cell? ⟨b1, 0, none⟩ = some (.int .i64 4) ∧ w'.cell? ⟨b1, 3, none⟩ = some (.slice A n0 c))) (by kernel_rfl) ⟨x0, x3⟩ (fun hHeld => ?_)
  refine wpAnyH_take (i := 0) (v := ?vm0) rfl (by kernel_rfl) (by kernel_rfl) (by kernel_rfl) (fun _ _ _ h => h) (Or.inl ⟨by rfl, ?ym0⟩) (by assumption) ?rm0
  case ym0 =>
    intro w hSw
    (try dsimp only at hSw)
    go_simp
    first | done | with_reducible rfl
  try simp only [Act.put, List.getElem_toArray, List.getElem_cons_zero, List.setIfInBounds_toArray, List.set_cons_zero, List.set_cons_succ]
  refine wpAnyH_take (i := 2) (v := ?vm2) rfl (by kernel_rfl) (by kernel_rfl) (by kernel_rfl) (fun _ _ _ h => h) (Or.inl ⟨by rfl, ?ym2⟩) (by assumption) ?rm2
  case ym2 =>
    intro w hSw
    (try dsimp only at hSw)
    go_simp
    first | done | with_reducible rfl
  try simp only [Act.put, List.getElem_toArray, List.getElem_cons_zero, List.getElem_cons_succ, List.setIfInBounds_toArray, List.set_cons_zero, List.set_cons_succ]
  refine wpAnyH_take (i := 3) (v := ?vm3) rfl (by kernel_rfl) (by kernel_rfl) (by kernel_rfl) (fun _ _ _ h => h) (Or.inl ⟨by rfl, ?ym3⟩) (by assumption) ?rm3
  case ym3 =>
    intro w hSw
    (try dsimp only at hSw)
    go_simp
    first | done | with_reducible rfl
  try simp only [Act.put, List.getElem_toArray, List.getElem_cons_zero, List.getElem_cons_succ, List.setIfInBounds_toArray, List.set_cons_zero, List.set_cons_succ]
  refine wpAnyH_take (i := 4) (v := ?vm4) rfl (by kernel_rfl) (by kernel_rfl) (by kernel_rfl) (fun _ _ _ h => h) (Or.inl ⟨by rfl, ?ym4⟩) (by assumption) ?rm4
  case ym4 =>
    intro w hSw
    (try dsimp only at hSw)
    go_simp
    first | done | with_reducible rfl
  try simp only [Act.put, List.getElem_toArray, List.getElem_cons_zero, List.getElem_cons_succ, List.setIfInBounds_toArray, List.set_cons_zero, List.set_cons_succ]
  refine wpAnyH_ready (rs := [1]) (by kernel_rfl) (by simp) ?_
  refine AllReadyH.cons rfl (fun K hK => ?_) AllReadyH.nil
  go_simp
  refine HHI.out.mono ?_
  rintro e wq ⟨rfl, hwq⟩
  have hwq := hwq.symm
  subst hwq
  refine hK.out _ _ hHeld (fun hHeld => ?_)
  clear hK K
  try simp only [Act.put, List.getElem_toArray, List.getElem_cons_zero, List.getElem_cons_succ, List.setIfInBounds_toArray, List.set_cons_zero, List.set_cons_succ]
  refine wpAnyH_ready (rs := [5]) (by kernel_rfl) (by simp) ?_
  refine AllReadyH.cons rfl (fun K hK => ?_) AllReadyH.nil
  go_simp
  refine HCM.out.mono ?_
  rintro e w4 hp4
  obtain ⟨rv, ev, rfl, hk4, hp4⟩ := commit_ends hp4
  have hd4 : DoB w4 b1 4 ⟨id, bs, A, c, l⟩ := (hk4 b1 _ _ (by decide) (show W3.drew.heap[b1]? = _ from HBX.out.d)).trans HBX.out.d
  have hr4 : TolB w4 (b1 + 1) 0 noA false := (hk4 (b1 + 1) _ _ (by decide) (show W3.drew.heap[b1 + 1]? = _ from HBX.out.r)).trans HBX.out.r
  have hs4 : TolB w4 (b1 + 2) 0 noA false := (hk4 (b1 + 2) _ _ (by decide) (show W3.drew.heap[b1 + 2]? = _ from HBX.out.s)).trans HBX.out.s
  have hHeld := (show _ ∧ _ from ⟨hd4.facts.1, by have h := hd4.facts.2.2.2; simp only [HN0.out] at h; exact h⟩)
  have HP4 := Lib.hid hp4
  have HK4 := Lib.hid hk4
  have R4 := Lib.hid hr4
  have S4 := Lib.hid hs4
  clear hd4 hr4 hs4 hp4 hk4
  refine hK.out _ _ hHeld (fun hHeld => ?_)
  clear hK K
  try simp only [Act.put, List.getElem_toArray, List.getElem_cons_zero, List.getElem_cons_succ, List.setIfInBounds_toArray, List.set_cons_zero, List.set_cons_succ]
  refine wpAnyH_take (i := 6) (v := ?vm6) rfl (by kernel_rfl) (by kernel_rfl) (by kernel_rfl) (fun _ _ _ h => h) (Or.inl ⟨by rfl, ?ym6⟩) (by assumption) ?rm6
  case ym6 =>
    intro w hSw
    (try dsimp only at hSw)
    go_simp
    first | done | with_reducible rfl
  try simp only [Act.put, List.getElem_toArray, List.getElem_cons_zero, List.getElem_cons_succ, List.setIfInBounds_toArray, List.set_cons_zero, List.set_cons_succ]
  refine wpAnyH_take (i := 7) (v := ?vm7) rfl (by kernel_rfl) (by kernel_rfl) (by kernel_rfl) (fun _ _ _ h => h) (Or.inl ⟨by rfl, ?ym7⟩) (by assumption) ?rm7
  case ym7 =>
    intro w hSw
    (try dsimp only at hSw)
    go_simp
    first | done | with_reducible rfl
  try simp only [Act.put, List.getElem_toArray, List.getElem_cons_zero, List.getElem_cons_succ, List.setIfInBounds_toArray, List.set_cons_zero, List.set_cons_succ]
  refine wpAnyH_take (i := 8) (v := ?vm8) rfl (by kernel_rfl) (by kernel_rfl) (by kernel_rfl) (fun _ _ _ h => h) (Or.inl ⟨by rfl, ?ym8⟩) (by assumption) ?rm8
  case ym8 =>
    intro w hSw
    (try dsimp only at hSw)
    go_simp
    first | done | with_reducible rfl
  try simp only [Act.put, List.getElem_toArray, List.getElem_cons_zero, List.getElem_cons_succ, List.setIfInBounds_toArray, List.set_cons_zero, List.set_cons_succ]
  refine wpAnyH_take (i := 9) (v := ?vm9) rfl (by kernel_rfl) (by kernel_rfl) (by kernel_rfl) (fun _ _ _ h => h) (Or.inl ⟨by rfl, ?ym9⟩) (by assumption) ?rm9
  case ym9 =>
    intro w hSw
    (try dsimp only at hSw)
    go_simp
    first | done | with_reducible rfl
  try simp only [Act.put, List.getElem_toArray, List.getElem_cons_zero, List.getElem_cons_succ, List.setIfInBounds_toArray, List.set_cons_zero, List.set_cons_succ]
  refine wpAnyH_take (i := 10) (v := ?vm10) rfl (by kernel_rfl) (by kernel_rfl) (by kernel_rfl) (fun _ _ _ h => h) (Or.inl ⟨by rfl, ?ym10⟩) (by assumption) ?rm10
  case ym10 =>
    intro w hSw
    (try dsimp only at hSw)
    go_simp
    first | done | with_reducible rfl
  try simp only [Act.put, List.getElem_toArray, List.getElem_cons_zero, List.getElem_cons_succ, List.setIfInBounds_toArray, List.set_cons_zero, List.set_cons_succ]
  refine wpAnyH_done (by kernel_rfl) ?_ _
  clear x0 x1 x2 x3
  obtain ⟨u0, u1, u2, u3, u4, u5⟩ := S4.out.facts
  obtain ⟨v0, v1, v2, v3, v4, v5⟩ := S4.out.free
  simp only [noA] at u0 u1 u2 u3 u4 u5
  have sX := S4.out.setE ev
  have gX := grown_setQ w4 (b1 + 2) 0 (.int .i64 ev)
  obtain ⟨VX, hVX⟩ : ∃ W, w4.setCell ⟨b1 + 2, 0, none⟩ (.int .i64 ev) = W := ⟨_, rfl⟩
  rw [hVX] at sX gX
  have HVX := Lib.hid hVX
  have SX := Lib.hid sX
  have GX := Lib.hid gX
  have RX := Lib.hid (show TolB VX (b1 + 1) 0 noA false from row_grownQ R4.out gX (by omega))
  clear sX gX hVX
  go_upto_region 13 with fail
  rw [HVX.out]
  clear u0 u1 u2 u3 u4 u5 v0 v1 v2 v3 v4 v5
  obtain ⟨p0, p1, p2, p3, p4, p5⟩ := RX.out.facts
  obtain ⟨f0, f1, f2, f3, f4, f5⟩ := RX.out.free
  obtain ⟨u0, u1, u2, u3, u4, u5⟩ := SX.out.facts
  simp only [noA] at p0 p1 p2 p3 p4 p5 u0 u1 u2 u3 u4 u5
  go_wp2_with fail
  obtain ⟨r9, g9⟩ := RX.out.all ev 0 0 0 0 false
  refine bodyPost_ret (results_cell_row rfl _ _ (b1 + 1) 38 _ (0, 0) _ rfl r9 Tryd.underlying38 rfl (by kernel_rfl)) rfl ?_
  have hl := HBX.out.lt
  have hw3 := HBX.out.bel.size
  have hsz : W3.heap.size ≤ w4.heap.size := by
    rcases HP4.out with ⟨_, _, _, hb4⟩ | ⟨_, _, nm', nv', cv', k', D', G', _, _, hb4, _⟩
    · exact hb4.size
    · exact hb4.size
  have hbz : Below w.heap.size w4 _ := ((Below.refl w.heap.size w4).grown GX.out (Nat.le_trans hw3 hsz) (fun j e => by cases e; omega)).grown g9 (Nat.le_trans (Nat.le_trans hw3 hsz) GX.out.size) (fun j e => by cases e; omega)
  have hq3 := HQ.out.below HBX.out.bel
  have hfr : QFrame qb v w w4 := QFrame.ahead HBX.out.bel ⟨hsz, fun g cur t ht _ _ _ hg => HK4.out g cur t ht (show W3.drew.heap[g]? = _ from hg)⟩
  refine ⟨ev, rfl, ?_⟩
  rcases HP4.out with ⟨_, h1, h2, hb4⟩ | ⟨_, h1, nm', nv', cv', k', D', G', h2, hH4, hb4, hkr, hkm⟩
  · have hb34 : Below W3.heap.size W3 w4 := (Below.refl _ _).drew.trans hb4
    exact ⟨((hq3.below hb34).told S4.out GX.out).told RX.out g9, (HBX.out.bel.mono H0.out.size).trans ((hb34.mono (by have := H0.out.size; omega)).trans (hbz.mono H0.out.size)), hfr.behind (Nat.le_refl _) hbz, .inl ⟨h1, h2, _, _, _, _, (((HH.out.below HBX.out.bel).below hb34).told S4.out GX.out).told RX.out g9⟩⟩
  · have hq4 : QueueAt w0.heap.size w4 qb hb ab room v R L := hq3.keep (fun g cur t ht hg => hkr g cur t (by rcases ht with rfl | rfl | rfl | rfl <;> decide) (show W3.drew.heap[g]? = _ from hg)) (fun o ho => by
      obtain ⟨es, ck, hm, _⟩ := hq3.ans
      rw [hkm ab es ck HNE.out (show W3.drew.heap[ab]? = _ from hm)]
      exact ho)
    have hb34 : Below w0.heap.size W3 w4 := (Below.refl _ _).drew.trans hb4
    exact ⟨(hq4.told S4.out GX.out).told RX.out g9, (HBX.out.bel.mono H0.out.size).trans (hb34.trans (hbz.mono H0.out.size)), hfr.behind (Nat.le_refl _) hbz, .inr ⟨h1, nm', nv', cv', k', D', G', h2, (hH4.told S4.out GX.out).told RX.out g9⟩⟩
end Go.Proofs.YtnkfnmkbfnhmfaaDoor
namespace Go.Proofs.YtnkfnmkbfnhmfaaDoor
open Go Go.RowKit Go.Shelf Go.Proofs Go.ChangeMaps Go.Maps Go.WideMaps
attribute [local go_sem] Oper.semAt_some

def tailB : Value → Option Nat
  | .slice (some a) _ _ => some a.block
  | _ => none
/-- Ints in a block of one's own, from some place on. -/
def IntsT (base : Nat) (w : World) (v : Value) (l : List Int) : Prop := (v = .slice none 0 0 ∧ l = []) ∨ ∃ g o c cur, v = .slice (some ⟨g, o, none⟩) l.length c ∧ base ≤ g ∧ w.heap[g]? = some (.cells cur 3 (0, 0)) ∧ o + c ≤ cur.size ∧ l.length ≤ c ∧ c ≤ maxLen ∧ ∀ i x, l[i]? = some x → cur[o + i]? = some (.int .i64 x)
theorem IntsT.nil (base : Nat) (w : World) : IntsT base w (.slice none 0 0) [] := .inl ⟨rfl, rfl⟩
theorem IntsT.blk {base : Nat} {w : World} {v : Value} {l : List Int} (h : IntsT base w v l) {g : Nat} (hg : tailB v = some g) : base ≤ g ∧ ∃ cur, w.heap[g]? = some (.cells cur 3 (0, 0)) := by
  rcases h with ⟨rfl, _⟩ | ⟨g', o, c, cur, rfl, h1, h2, _⟩
  · cases hg
  · cases hg
    exact ⟨h1, cur, h2⟩
theorem IntsT.keep {base : Nat} {w w' : World} {v : Value} {l : List Int} (h : IntsT base w v l) (hk : ∀ (g : Nat) (cur : Array Value), tailB v = some g → w.heap[g]? = some (.cells cur 3 (0, 0)) → w'.heap[g]? = w.heap[g]?) : IntsT base w' v l :=
  h.imp (fun h => h) fun ⟨g, o, c, cur, hv, h1, h2, r⟩ => ⟨g, o, c, cur, hv, h1, (hk g cur (by rw [hv]; rfl) h2).trans h2, r⟩
theorem IntsT.below {base : Nat} {w w' : World} {v : Value} {l : List Int} (h : IntsT base w v l) (hb : Below w.heap.size w w') : IntsT base w' v l := h.keep fun g _ _ hg => hb.block g (Array.getElem?_eq_some_iff.1 hg).1
theorem IntsT.frame {base base' : Nat} {w w' : World} {qb hb ab room : Nat} {v u : Value} {R : List QX} {L : List AX} {l : List Int} (h : IntsT base' w u l) (hq : QueueAt base w qb hb ab room v R L) (hf : QFrame qb v w w') : IntsT base' w' u l := h.keep fun g cur _ hg => hf.cells g cur _ (by decide) (fun e => by rw [e, hq.heap] at hg; cases hg) (fun e => by
  obtain ⟨_, cur2, hy⟩ := hq.waits.far e
  rw [hy] at hg; cases hg) hg
theorem IntsT.turn {base base' : Nat} {w w' : World} {qb hb ab room : Nat} {v u : Value} {R : List QX} {L : List AX} {l : List Int} (h : IntsT base' w u l) (hq : QueueAt base w qb hb ab room v R L) (ht : QTurn (fun j => j = qb ∨ v.ownBlock = some j) w w') : IntsT base' w' u l := h.keep fun g cur _ hg => ht.block g (Array.getElem?_eq_some_iff.1 hg).1 (fun e => by
  rcases e with e | e
  · rw [e, hq.heap] at hg; cases hg
  · obtain ⟨_, cur2, hy⟩ := hq.waits.far e
    rw [hy] at hg; cases hg)
/-- Where another row of ints grows. -/
theorem IntsT.apart {base : Nat} {w w' : World} {v u : Value} {l : List Int} (h : IntsT base w u l) (hg : w.grownBy w' (tailB v)) (hne : ∀ j, tailB v = some j → tailB u ≠ some j) : IntsT base w' u l := h.keep fun g _cur hu hc => hg.block g (Array.getElem?_eq_some_iff.1 hc).1 (fun e => hne g e.symm hu)
theorem IntsT.queue {base base' : Nat} {w w' : World} {qb hb ab room n : Nat} {v u : Value} {R : List QX} {L : List AX} {xs : List Int} {nm : List FX} {M : Bs → Nat} {nv cv : Value} {mb k : Nat} {D : DataW Unit} {H : List (Nat × List DX)} (h : IntsT base' w u xs) (hq : QueueAt base w qb hb ab room v R L) (hh : HistAt base w hb n nm M nv cv mb k D H) (hg : w.grownBy w' (tailB u)) : QueueAt base w' qb hb ab room v R L ∧ HistAt base w' hb n nm M nv cv mb k D H := by
  have key : ∀ (j : Nat) (o : Obj), w.heap[j]? = some o → (∀ cur, o ≠ .cells cur 3 (0, 0)) → w'.heap[j]? = w.heap[j]? := fun j o ho h1 => hg.block j (Array.getElem?_eq_some_iff.1 ho).1 (fun e => by
    obtain ⟨_, cur, hc⟩ := h.blk e.symm
    rw [hc] at ho; cases ho
    exact h1 _ rfl)
  have km : ∀ (j : Nat) (es : Array MapEntry) (ck : Nat), w.heap[j]? = some (.map es ck) → w'.heap[j]? = w.heap[j]? := fun j es ck hj => key j _ hj (fun _ e => by cases e)
  refine ⟨hq.keep (fun g cur t ht hc => key g _ hc (fun cur' e => by cases e; rcases ht with h | h | h | h <;> exact absurd h (by decide))) (fun o ho => ?_), hh.keepT (fun g cur t ht hc => key g _ hc (fun cur' e => by cases e; rcases ht with h | h | h | h | h <;> exact absurd h (by decide))) (fun o ho => ?_)⟩
  · obtain ⟨es, ck, hm, _⟩ := hq.ans
    rw [km _ es ck hm]; exact ho
  · obtain ⟨es, ck, hm⟩ := hh.map.block
    rw [km _ es ck hm]; exact ho
theorem IntsT.ints {base : Nat} {w : World} {v : Value} {l : List Int} (h : IntsT base w v l) : ∃ A c, v = .slice A l.length c ∧ IntsI w A l := by
  rcases h with ⟨rfl, rfl⟩ | ⟨g, o, c, cur, rfl, _, h2, _, _, _, h6⟩
  · exact ⟨none, 0, rfl, fun h => absurd h (by simp)⟩
  · exact ⟨_, _, rfl, fun _ => ⟨g, o, rfl, fun i x hx => by
      rw [cell_of_row w g (o + i) _ _ _ h2]
      exact h6 i x hx⟩⟩
theorem IntsT.cut {base : Nat} {w : World} {g o c : Nat} {n : Nat} {x : Int} {l : List Int} (h : IntsT base w (.slice (some ⟨g, o, none⟩) n c) (x :: l)) : IntsT base w (.slice (if c = 1 then some ⟨g, o, none⟩ else some ⟨g, o + 1, none⟩) l.length (c - 1)) l := by
  rcases h with ⟨h, _⟩ | ⟨g', o', c', cur, e, h1, h2, h3, h4, h5, h6⟩
  · cases h
  · cases e
    have h4 : l.length + 1 ≤ c := h4
    by_cases hc : c = 1
    · rw [if_pos hc]
      have hl : l = [] := List.eq_nil_of_length_eq_zero (by omega)
      subst hl
      exact .inr ⟨g, o, c - 1, cur, rfl, h1, h2, by omega, Nat.zero_le _, by omega, fun i x hx => by simp at hx⟩
    · rw [if_neg hc]
      exact .inr ⟨g, o + 1, c - 1, cur, rfl, h1, h2, by omega, by omega, by omega, fun i y hy => by
        have := h6 (i + 1) y (by simpa using hy)
        rw [show o + 1 + i = o + (i + 1) by omega]; exact this⟩
theorem IntsT.of_own {base base' : Nat} {w : World} {v : Value} {l : List Int} (h : w.ownsRow base' 3 1 v l.length (intsV l)) (hb : base ≤ base') : IntsT base w v l := by
  rcases h.2 with ⟨rfl, hn⟩ | ⟨g, cap, cur, rfl, hbg, hh, h1, h2, h3, h4⟩
  · exact .inl ⟨rfl, List.eq_nil_of_length_eq_zero hn⟩
  · refine .inr ⟨g, 0, cap, cur, rfl, Nat.le_trans hb hbg, hh, by omega, h1, h2, fun i x hx => ?_⟩
    have b1 := World.ownsRow.cells h (g := g) rfl i (.int .i64 x) (by unfold intsV; rw [List.getElem?_map, hx]; rfl)
    rw [Go.WideShapes.add_plain, Nat.zero_add] at b1
    rw [cell_of_row w g i _ _ _ hh] at b1
    rw [Nat.zero_add]; exact b1
theorem setCells_one (w : World) (b o : Nat) (v : Value) : w.setCells b o [v] = w.setCell ⟨b, o, none⟩ v := rfl
theorem wpList_appTail {base : Nat} {w : World} {v : Value} {l : List Int} {x : Int} {ops : Array Oper} {rest : List Oper} {o : Oper} {a : Act} {Q : Exit → Act → World → Prop} (hgd : o.guard = none) (s y : Operand)
    (ho : o.op = .call { callee := .builtin .append, args := #[s, y], argTypes := #[33, 33] }) (hs : a.eval s = v) (hown : IntsT base w v l) (b : Nat) (hx : a.eval y = .slice (some ⟨b, 0, none⟩) 1 1) (hc : w.cell? ⟨b, 0, none⟩ = some (.int .i64 x)) (hlen : l.length ≤ 1000000) (hbase : base ≤ w.heap.size)
    (h : ∀ v' w', IntsT base w' v' (l ++ [x]) → w.grownBy w' (tailB v) → (tailB v' = tailB v ∨ ∃ j, tailB v' = some j ∧ w.heap.size ≤ j) → wpList Tryd.prog ops Q rest (a.put o.dst v') w') : wpList Tryd.prog ops Q (o :: rest) a w := by
  obtain ⟨ii, hi, hz0, hz1, hz2⟩ := info_parts int_infoQ
  have grew : ∀ v' w', w'.ownsRow w.heap.size 3 1 v' (l.length + 1) (intsV l ++ [.int .i64 x]) → w.grownBy w' none → wpList Tryd.prog ops Q rest (a.put o.dst v') w' := fun v' w' h1 h2 => by
    have h1' : w'.ownsRow w.heap.size 3 1 v' (l ++ [x]).length (intsV (l ++ [x])) := by
      rw [List.length_append]
      have e : intsV (l ++ [x]) = intsV l ++ [.int .i64 x] := by unfold intsV; rw [List.map_append]; rfl
      rw [e]; exact h1
    refine h v' w' (IntsT.of_own h1' hbase) ⟨h2.os, h2.tape, h2.output, h2.size, fun k hk _ => h2.block k hk (by simp)⟩ (.inr ?_)
    rcases h1.2 with ⟨_, hn⟩ | ⟨g, cap, cur, rfl, hbg, _⟩
    · omega
    · exact ⟨g, rfl, hbg⟩
  rcases hown with ⟨rfl, rfl⟩ | ⟨g, off, c, cur, rfl, h1, h2, h3, h4, h5, h6⟩
  · exact wpList_append_grows w hgd s y 33 ho 3 ii (.int .i64 0) 1 8 Tryd.underlying33 hi hz0 hz1 hz2 rfl (by decide) none 0 0 [] hs (fun _ => ⟨rfl, rfl⟩) rfl (fun b e => by cases e) ⟨b, 0, none⟩ 1 1 [.int .i64 x] hx rfl (fun j u hu => by
      match j, hu with
      | 0, hu => simp at hu; subst hu; simpa [Addr.add] using hc
      | (j + 1), hu => simp at hu) (by intro u hu; simp only [List.mem_singleton] at hu; subst hu; rfl) (by omega) (by unfold maxLen; omega) (by omega) (fun v' w' h1 h2 => grew v' w' (by simpa [intsV] using h1) h2)
  · refine wpList_append_arg w hgd s y 33 ho 3 ii (.int .i64 0) 1 8 Tryd.underlying33 hi hz0 hz1 hz2 rfl (by decide) g off l.length c (intsV l) hs (by unfold intsV; simp) (fun j u hu => ?_) ⟨b, 0, none⟩ 1 1 [.int .i64 x] hx rfl (fun j u hu => by
      match j, hu with
      | 0, hu => simp at hu; subst hu; simpa [Addr.add] using hc
      | (j + 1), hu => simp at hu) (by intro u hu; simp only [List.mem_singleton] at hu; subst hu; rfl) (fun hr j hj => ?_) (by unfold maxLen; omega) (by omega) (fun hr => ?_) (fun _ v' w' h1 h2 => grew v' w' h1 h2)
    · unfold intsV at hu
      rw [List.getElem?_map] at hu
      obtain ⟨z, hz, rfl⟩ := Option.map_eq_some_iff.1 hu
      rw [cell_of_row w g (off + j) _ _ _ h2]
      exact h6 j z hz
    · have hj0 : j = 0 := by simpa using hj
      subst hj0
      refine ⟨?_, frozen_of_row w g _ _ _ h2⟩
      rw [cell_of_row w g _ _ _ _ h2]
      have hlt : off + l.length * 1 + 0 < cur.size := by omega
      rw [show (cur[off + l.length * 1 + 0]?) = some cur[off + l.length * 1 + 0] from Array.getElem?_eq_getElem hlt]
      rfl
    · rw [setCells_one, Nat.mul_one]
      have hh := heap_setCell_same w g (off + l.length) _ _ (.int .i64 x) h2
      refine h _ _ (.inr ⟨g, off, c, _, by rw [List.length_append]; rfl, h1, hh, by simpa using h3, by rw [List.length_append]; exact hr, h5, fun i z hz => ?_⟩) ⟨rfl, rfl, rfl, by simp [World.setCell], fun q _ hne => heap_setCell_other w ⟨g, off + l.length, none⟩ q _ (fun e => hne (by rw [e]; rfl))⟩ (.inl rfl)
      by_cases hil : i < l.length
      · rw [List.getElem?_append_left hil] at hz
        rw [Array.getElem?_setIfInBounds_ne (by omega)]
        exact h6 i z hz
      · have hi0 : i = l.length := by
          have := (List.getElem?_eq_some_iff.1 hz).1
          rw [List.length_append] at this
          simp at this
          omega
        subst hi0
        rw [List.getElem?_append_right (Nat.le_refl _), Nat.sub_self] at hz
        obtain rfl : x = z := by simpa using hz
        rw [Array.getElem?_setIfInBounds_self_of_lt (by omega)]
end Go.Proofs.YtnkfnmkbfnhmfaaDoor
namespace Go.Proofs.YtnkfnmkbfnhmfaaDoor
open Go Go.RowKit Go.Shelf Go.Proofs Go.ChangeMaps Go.Maps Go.WideMaps
attribute [local go_sem] Oper.semAt_some

theorem HistAt.rebaseQ {base base' : Nat} {w : World} {hb n : Nat} {nm : List FX} {M : Bs → Nat} {nv cv : Value} {mb k : Nat} {D : DataW Unit} {H : List (Nat × List DX)} (h : HistAt base w hb n nm M nv cv mb k D H) (hb' : base' ≤ base) : HistAt base' w hb n nm M nv cv mb k D H := by
  refine ⟨h.heap, h.names, h.right, h.bare, ⟨h.commits.1, ?_⟩, h.num, h.full, h.sm, h.map, h.room, h.revs, h.le, Nat.le_trans hb' h.lb, Nat.le_trans hb' h.lm⟩
  rcases h.commits.2 with h2 | ⟨g, cap, cur, h3, h4, h5⟩
  · exact .inl h2
  · exact .inr ⟨g, cap, cur, h3, Nat.le_trans hb' h4, h5⟩
theorem small_treeQ {t : List FX} (h : longN t ≤ 2000) : ∀ x ∈ t, x.p.size ≤ 1000000 := fun x hx => by
  obtain ⟨k, hk⟩ := List.getElem?_of_mem hx
  have h1 := longN_snoc hk
  have h2 : longN (t.take (k + 1)) ≤ longN t := by
    have e : longN t = longN (t.take (k + 1)) + longN (t.drop (k + 1)) := by
      unfold longN
      rw [← List.sum_append, ← List.map_append, List.take_append_drop]
    omega
  omega
theorem small_ofQ {l : List DX} (h : longDN l ≤ 3000) : SmallD l := by
  have h2 := longDN_len l
  refine ⟨by omega, fun y hy => ?_⟩
  have h3 := longDN_mem hy
  omega
theorem key_wf {a : Int} (h : (Lit.int .i64 a).wf = true) : keyOf Tryd.prog 3 (.int .i64 a) = some (.int .i64 a) := keyOf_int_mk (P := Tryd.prog) Tryd.underlying3 h
theorem HistAt.headQ {base : Nat} {w : World} {hb n : Nat} {nm : List FX} {M : Bs → Nat} {nv cv : Value} {mb k : Nat} {D : DataW Unit} {H : List (Nat × List DX)} (h : HistAt base w hb n nm M nv cv mb k D H) : Calls Tryd.prog 11 #[.pointer (some ⟨hb, 0, none⟩)] w fun e w' => e = .returned (.int .i64 n) ∧ w' = w := by
  obtain ⟨A, c, hc, -⟩ := h.commit_slice
  have h2 := h.heap
  rw [hc] at h2
  exact hhead_any hb A n _ w (cell_of_row w hb 1 _ _ _ h2)
theorem same_waits {base base' : Nat} {w : World} {v u : Value} {R : List QX} (h : w.ownsRow base' 3 1 v R.length (idsV R)) (ho : IntsT base w u (R.map QX.id)) (hl : R.length ≤ 1000000) : Calls Tryd.prog 15 #[v, u] w fun e w' => e = .returned (.bool true) ∧ Below w.heap.size w w' := by
  obtain ⟨A, c, rfl, -, -, h1⟩ := ints_slice (l := R.map QX.id) (by rw [← idsV_ints, List.length_map]; exact h)
  obtain ⟨A', c', rfl, h2⟩ := ho.ints
  have := sameintsI_any (R.map QX.id) (R.map QX.id) A A' c c' w h1 h2 (by rw [List.length_map]; omega) (by rw [List.length_map]; omega)
  rw [show decide (R.map QX.id = R.map QX.id) = true by simp] at this
  exact this
theorem IntsT.first {base : Nat} {w : World} {g o c n : Nat} {x : Int} {l : List Int} (h : IntsT base w (.slice (some ⟨g, o, none⟩) n c) (x :: l)) : w.cell? ⟨g, o, none⟩ = some (.int .i64 x) := by
  rcases h with ⟨h, _⟩ | ⟨g', o', c', cur, e, _, h2, _, _, _, h6⟩
  · cases h
  · cases e
    rw [cell_of_row w g o _ _ _ h2]
    have := h6 0 x rfl
    simpa using this
theorem sub_zeroA {n rm : Nat} {R : List QX} {L : List AX} {x : QX} (h : subE n rm R L x = 0) : hasA L x.id = false := by
  unfold subE at h
  split at h
  · cases h
  · split at h
    · cases h
    · split at h
      · cases h
      · rename_i h3
        cases hh : hasA L x.id with
        | false => rfl
        | true => exact absurd (by rw [hh]; rfl) h3
theorem hasA_self (a : AX) (L : List AX) : hasA (a :: L) a.id = true := by
  unfold hasA ansOf
  rw [List.find?_cons_of_pos (by simp)]
  rfl
/-- In the loop: queue and history, who waits, which revisions were made. -/
structure OnceI (w wr : World) (qb hb ab mb : Nat) (vo vr : Value) (i n : Nat) (T : List QX) (L : List AX) (vq : Value) (nm : List FX) (M : Bs → Nat) (nv cv : Value) (k : Nat) (D : DataW Unit) (H : List (Nat × List DX)) (rv : List Int) : Prop where
  q : QueueAt w.heap.size wr qb hb ab 100 vq T L
  h : HistAt w.heap.size wr hb n nm M nv cv mb k D H
  o : IntsT w.heap.size wr vo (T.map QX.id)
  r : IntsT w.heap.size wr vr rv
  ris : rv.Pairwise (· < ·)
  top : ∀ x ∈ rv, x ≤ (n : Int)
  ap : ∀ j, tailB vo = some j → tailB vr ≠ some j
  ids : ∀ x ∈ T, (Lit.int .i64 x.id).wf = true
  lt : T.length ≤ 2 * i ∧ L.length ≤ i ∧ rv.length ≤ i ∧ n ≤ i
  bel : Below w.heap.size w wr
section
variable {w wr wq : World} {qb hb ab mb : Nat} {vo vr : Value} {i n : Nat} {T : List QX} {L : List AX} {vq : Value} {nm : List FX} {M : Bs → Nat} {nv cv : Value} {k : Nat} {D : DataW Unit} {H : List (Nat × List DX)} {rv : List Int}
theorem OnceI.below (h : OnceI w wr qb hb ab mb vo vr i n T L vq nm M nv cv k D H rv) (hb' : Below wr.heap.size wr wq) : OnceI w wq qb hb ab mb vo vr i n T L vq nm M nv cv k D H rv :=
  ⟨h.q.below hb', h.h.below hb', h.o.below hb', h.r.below hb', h.ris, h.top, h.ap, h.ids, h.lt, h.bel.trans (hb'.mono h.bel.size)⟩
theorem OnceI.next (h : OnceI w wr qb hb ab mb vo vr i n T L vq nm M nv cv k D H rv) : OnceI w wr qb hb ab mb vo vr (i + 1) n T L vq nm M nv cv k D H rv :=
  ⟨h.q, h.h, h.o, h.r, h.ris, h.top, h.ap, h.ids, by have := h.lt; omega, h.bel⟩
/-- One more waits: told to order, not yet to the queue's row of them. -/
theorem OnceI.pushed {y : QX} {v' vo' : Value} {w2 : World} {j : Nat} (h : OnceI w wr qb hb ab mb vo vr i n T L vq nm M nv cv k D H rv) (hj : T.length + 1 ≤ 2 * j ∧ L.length ≤ j ∧ rv.length ≤ j ∧ n ≤ j) (hq : QueueAt w.heap.size w2 qb hb ab 100 v' (T ++ [y]) L) (ht : QTurn (fun j => j = qb ∨ vq.ownBlock = some j) wr w2)
    (hy : (Lit.int .i64 y.id).wf = true) {w3 : World} (hb3 : Below w2.heap.size w2 w3) (ho : IntsT w.heap.size wq vo' (T.map QX.id ++ [y.id])) (hg : w3.grownBy wq (tailB vo)) (hl : tailB vo' = tailB vo ∨ ∃ j, tailB vo' = some j ∧ w3.heap.size ≤ j) :
    OnceI w wq qb hb ab mb vo' vr j n (T ++ [y]) L v' nm M nv cv k D H rv := by
  have hh2 := h.h.turned h.q ht
  have ho2 := h.o.turn h.q ht
  have hr2 := h.r.turn h.q ht
  have hbw2 := h.bel.trans (ht.below (n := w.heap.size) (fun j e => by
    rcases e with rfl | e
    · exact h.q.lq
    · exact (h.q.waits.far e).1) h.bel.size)
  have hbw3 := hbw2.trans (hb3.mono hbw2.size)
  obtain ⟨hq3, hh3⟩ := (ho2.below hb3).queue (hq.below hb3) (hh2.below hb3) hg
  have hap : ∀ j, tailB vo' = some j → tailB vr ≠ some j := fun j e => by
    rcases hl with e2 | ⟨j', e2, hj'⟩
    · exact h.ap j (by rw [← e2]; exact e)
    · intro e3
      obtain ⟨_, cur, hc⟩ := (hr2.below hb3).blk e3
      have := (Array.getElem?_eq_some_iff.1 hc).1
      rw [e] at e2
      cases e2
      omega
  refine ⟨hq3, hh3, by rw [List.map_append]; exact ho, (hr2.below hb3).apart hg h.ap, h.ris, h.top, hap, fun x hx => ?_, by rw [List.length_append]; exact hj, hbw3.grown hg hbw3.size (fun j e => ((ho2.below hb3).blk e.symm.symm).1)⟩
  rcases List.mem_append.1 hx with hx | hx
  · exact h.ids x hx
  · obtain rfl : x = y := by simpa using hx
    exact hy
end
set_option maxRecDepth 200000 in
set_option maxHeartbeats 64000000 in
theorem qonce_any (t : List FX) (l : List DoX) (A B : Option Addr) (c d : Nat) (w : World) (ht : TreeAt w A c t) (zt : BigX t) (hl : DosAt w B d l) (hb : longDos l ≤ 4611686018427387904) (hm : MaxOk w) :
    Calls Tryd.prog 3 #[.slice A t.length c, .slice B l.length d] w fun e w' => e = .returned (.bool true) ∧ Below w.heap.size w w' := by
  have HSM := Lib.hid (qsmall_any t l A B c d w ht zt hl hb)
  have HKN := Lib.hid (fun (W : World) (h : Below w.heap.size w W) => qknown_any W (hm.below h))
  have HT := Lib.hid ht
  have HL := Lib.hid hl
  have HM := Lib.hid hm
  have hcap : l.length ≤ maxLen := Nat.le_trans hl.cap hl.capm
  unfold maxLen at hcap
  clear ht zt hl hb hm
  cases h1 : smallQ t l with
  | false =>
    rw [h1] at HSM
    clear h1
    go_enter Tryd.func3, Tryd.ntmps3
    go_wp2_with fail
    refine HSM.out.mono ?_
    rintro e w1 ⟨rfl, hb1⟩
    have HB1 := Lib.hid hb1
    clear hb1
    go_wp2_with fail
    refine (HKN.out w1 HB1.out).mono ?_
    rintro e wk ⟨rfl, hbk⟩
    have HBK := Lib.hid (show Below w.heap.size w wk from (HB1.out).trans (hbk.mono (HB1.out).size))
    clear hbk
    go_wp2_with fail
    go_ret
    exact ⟨rfl, HBK.out⟩
  | true =>
  have hsq : t.length ≤ 20 ∧ longN t ≤ 1000 ∧ l.length ≤ 30 ∧ longDos l ≤ 2000 := by
    unfold smallQ at h1
    simp only [Bool.and_eq_true, decide_eq_true_eq] at h1
    exact ⟨h1.1.1.1, h1.1.1.2, h1.1.2, h1.2⟩
  have HST := Lib.hid (show ∀ x ∈ t, x.p.size ≤ 1000000 from small_treeQ (by omega))
  have HSD := Lib.hid (fun x (hx : x ∈ l) => small_ofQ (l := x.q.l) (by have := longDos_mem hx; omega))
  rw [h1] at HSM
  clear h1
  obtain ⟨N, hN⟩ : ∃ N, l.length = N := ⟨_, rfl⟩
  have hN30 : N ≤ 30 := by omega
  have HN := Lib.hid hN
  rw [hN] at hcap HSM ⊢
  clear hN hsq
  go_enter Tryd.func3, Tryd.ntmps3
  go_wp2_with fail
  refine HSM.out.mono ?_
  rintro e w1 ⟨rfl, hb1⟩
  have HB1 := Lib.hid hb1
  have HNEW := Lib.hid (hnew_any t A c w1 (HT.out.below hb1) HST.out (HM.out.below hb1))
  clear hb1
  go_wp2_with fail
  refine HNEW.out.mono ?_
  intro e w2 hp
  unfold NewPost at hp
  cases hr : rightT (flsX t) with
  | false =>
    rw [if_neg (by rw [hr]; decide)] at hp
    obtain ⟨rfl, hb2⟩ := hp
    have HB2 := Lib.hid (HB1.out.trans (hb2.mono HB1.out.size))
    clear hb2 hr
    go_wp2_with fail
    refine (HKN.out w2 HB2.out).mono ?_
    rintro e wk ⟨rfl, hbk⟩
    have HBK := Lib.hid (show Below w.heap.size w wk from (HB2.out).trans (hbk.mono (HB2.out).size))
    clear hbk
    go_wp2_with fail
    go_ret
    exact ⟨rfl, HBK.out⟩
  | true =>
  rw [if_pos hr] at hp
  obtain ⟨hb, nv0, cv0, mb, k0, D0, G0, l0, rfl, hH, -, hb2⟩ := hp
  have HQN := Lib.hid (qnew_any hb 100 100 w2 (by decide))
  have HB2 := Lib.hid (HB1.out.trans (hb2.mono HB1.out.size))
  have HH2 := Lib.hid (hH.rebaseQ HB1.out.size)
  clear hr hH hb2 HNEW HSM
  go_wp2_with fail
  refine HQN.out.mono ?_
  rintro e w3 ⟨qb, ab, rfl, hab, hq3, hb3⟩
  have hne : ab ≠ mb := by
    obtain ⟨es, ck, hy⟩ := HH2.out.map.block
    have := (Array.getElem?_eq_some_iff.1 hy).1
    omega
  have HNE := Lib.hid hne
  have HI0 := Lib.hid (show OnceI w w3 qb hb ab mb (.slice none 0 0) (.slice none 0 0) 0 0 [] [] (.slice none 0 0) (bareX t) (fun _ => 0) nv0 cv0 k0 D0 [(G0, l0)] [] from
    ⟨hq3.lower HB2.out.size, HH2.out.below hb3, IntsT.nil _ _, IntsT.nil _ _, List.Pairwise.nil, fun x h => (by cases h), fun j h => (by cases h), fun x h => (by cases h), ⟨Nat.zero_le _, Nat.zero_le _, Nat.zero_le _, Nat.zero_le _⟩, HB2.out.trans (hb3.mono HB2.out.size)⟩)
  clear hab hq3 hb3 hne HQN
  go_wp2_with fail
  go_loopw [8, 9, 10] (fun v8 v9 v10 wr => ∃ (i n : Nat) (T : List QX) (L : List AX) (vq : Value) (nm : List FX) (M : Bs → Nat) (nv cv : Value) (k : Nat) (D : DataW Unit) (H : List (Nat × List DX)) (rv : List Int), v10 = .int .i64 i ∧ i ≤ N ∧ Hid (OnceI w wr qb hb ab mb v8 v9 i n T L vq nm M nv cv k D H rv)) (fun _ _ v10 _ => N - (intOf v10).toNat)
  case atStart => exact ⟨0, 0, [], [], _, _, _, _, _, _, _, _, [], rfl, Nat.zero_le _, HI0⟩
  case round =>
    clear HI0
    obtain ⟨i, n, Tq, L, vq, nm, M, nv, cv, k, D, H, rv, rfl, hi, HI⟩ := hrel
    by_cases hlt : i < N
    · have k1 : (i : Int) < (N : Int) := by omega
      obtain ⟨x, hx⟩ : ∃ x, l[i]? = some x := ⟨_, List.getElem?_eq_getElem (by rw [HN.out]; exact hlt)⟩
      obtain ⟨g, o, hB, hr⟩ := HL.out.row (by rw [HN.out]; omega)
      have hr := hr i x hx
      have hxm := List.mem_of_getElem? hx
      have HDX := Lib.hid (HL.out.dels x hxm)
      have HSX := Lib.hid (HSD.out x hxm)
      have HWX := Lib.hid (HL.out.ids x hxm)
      obtain ⟨xk, q⟩ := x
      simp only at hr HDX HSX HWX
      have HC := Lib.hid (fun (W : World) (hb : Below w.heap.size w W) => show W.cell? ⟨g, o + i * 4, none⟩ = some (.int .i64 xk) ∧ W.cell? ⟨g, o + i * 4 + 1, none⟩ = some (.int .i64 q.id) ∧ W.cell? ⟨g, o + i * 4 + 2, none⟩ = some (.int .i64 q.base) ∧ W.cell? ⟨g, o + i * 4 + 3, none⟩ = some (.slice q.A q.l.length q.c) by
        have k := fun (j : Nat) (v : Value) (hc : w.cell? ⟨g, j, none⟩ = some v) => (hb.cell (p := ⟨g, j, none⟩) (World.block_lt_of_cell? w (a := ⟨g, j, none⟩) hc)).trans hc
        exact ⟨k _ _ hr.1, k _ _ hr.2.1, k _ _ hr.2.2.1, k _ _ hr.2.2.2⟩)
      subst hB
      obtain ⟨c0, c1, c2, c3⟩ := HC.out wr HI.out.bel
      have HHD := Lib.hid HI.out.h.headQ
      have hlt4 := HI.out.lt
      clear hx hr hxm
      by_cases e1 : xk = 1
      · subst e1
        obtain ⟨se, hse⟩ : ∃ s, subE n 100 Tq L q = s := ⟨_, rfl⟩
        have HSE := Lib.hid hse
        clear hse
        by_cases hse0 : se = 0
        · subst hse0
          have hdid := did_sub HI.out.q HI.out.h q HI.out.bel.size (HDX.out.below HI.out.bel) HSX.out (by omega) (key_wf HWX.out)
          unfold doV at hdid
          have HDID := Lib.hid hdid
          clear hdid
          go_wp2_with fail
          refine HHD.out.mono ?_
          rintro e wq ⟨rfl, hwq⟩
          have hwq := hwq.symm
          subst hwq
          go_wp2_with fail
          refine HDID.out.mono ?_
          rintro e w4 ⟨rfl, hp4⟩
          rw [HSE.out] at hp4 ⊢
          rcases hp4 with ⟨h, _⟩ | ⟨_, v', y, hq4, ⟨hy1, hy2, hy3⟩, ht4, hv4⟩
          · exact absurd rfl h
          simp only [told, noA]
          have HQ4 := Lib.hid hq4
          have HT4 := Lib.hid ht4
          have HY := Lib.hid hy1
          clear hq4 hy1 hy2 hy3 ht4 hv4
          obtain ⟨b12, hb12⟩ : ∃ b, w4.heap.size = b := ⟨_, rfl⟩
          obtain ⟨W12, hW12⟩ : ∃ W, w4.alloc (.cells #[.int .i64 0, .int .i64 0, .int .i64 0, .int .i64 0, .int .i64 0, .bool false] 38) = W := ⟨_, rfl⟩
          have a12 : TolB W12 b12 0 noA false := by unfold TolB; rw [← hW12, ← hb12]; exact heap_alloc_new _ _
          have hbl12 : Below w4.heap.size w4 W12 := by rw [← hW12]; exact (Below.refl _ _).alloc (Nat.le_refl _) _
          obtain ⟨t12, g12⟩ := a12.all 0 0 0 0 0 false
          obtain ⟨V12, hV12⟩ : ∃ W, (((((W12.setCell ⟨b12, 0, none⟩ (.int .i64 0)).setCell ⟨b12, 1, none⟩ (.int .i64 0)).setCell ⟨b12, 2, none⟩ (.int .i64 0)).setCell ⟨b12, 3, none⟩ (.int .i64 0)).setCell ⟨b12, 4, none⟩ (.int .i64 0)).setCell ⟨b12, 5, none⟩ (.bool false) = W := ⟨_, rfl⟩
          rw [hV12] at t12 g12
          have hbm12 : Below w4.heap.size w4 V12 := hbl12.grown g12 hbl12.size (fun j e => by cases e; omega)
          obtain ⟨z0, z1, z2, z3, z4, z5⟩ := a12.facts
          obtain ⟨f0, f1, f2, f3, f4, f5⟩ := a12.free
          simp only [noA] at z0 z1 z2 z3 z4
          have HV12 := Lib.hid hV12
          have T12 := Lib.hid t12
          have HBM12 := Lib.hid hbm12
          clear a12 hbl12 t12 g12 hV12 hbm12
          clear c0 c1 c2 c3
          go_upto_region 14 with fail
          rw [HV12.out]
          clear z0 z1 z2 z3 z4 z5 f0 f1 f2 f3 f4 f5 hW12 hb12
          obtain ⟨y0, y1, y2, y3, y4, y5⟩ := T12.out.facts
          simp only [] at y0 y1 y2 y3 y4 y5
          have hbw4 : Below w.heap.size w w4 := HI.out.bel.trans (HT4.out.below (n := w.heap.size) (fun j e => by
            rcases e with rfl | e
            · exact HI.out.q.lq
            · exact (HI.out.q.waits.far e).1) HI.out.bel.size)
          have hbw12 := hbw4.trans (HBM12.out.mono hbw4.size)
          obtain ⟨c0, c1, c2, c3⟩ := HC.out V12 hbw12
          have HO12 := Lib.hid ((HI.out.o.turn HI.out.q HT4.out).below HBM12.out)
          have hbA : Below V12.heap.size V12 (V12.alloc (.cells #[.int .i64 q.id] 3)) := (Below.refl _ _).alloc (Nat.le_refl _) _
          have HBA := Lib.hid (HBM12.out.trans (hbA.mono HBM12.out.size))
          have HB12 := Lib.hid hbw12
          have hsz12 := hbw12.size
          clear hbw4 hbw12
          go_wp2_with (
            at_builtin
            refine wpList_appTail (base := w.heap.size) rfl _ _ rfl rfl (HO12.out.below hbA) V12.heap.size rfl (cell_of_row _ _ 0 _ _ _ (heap_alloc_new V12 _)) (by rw [List.length_map]; omega) (by rw [World.size_alloc]; omega) ?_
            intro v9 w9 ho9 hg9 hl9
            have HI9 := Lib.hid (HI.out.pushed (y := y) (v' := v') (j := i + 1) (by omega) HQ4.out HT4.out (by rw [HY.out]; exact HWX.out) HBA.out (by rw [HY.out]; exact ho9) hg9 hl9)
            have T9 := Lib.hid (show TolB w9 b12 0 noA false from (hg9.block b12 (Nat.lt_of_lt_of_le (Array.getElem?_eq_some_iff.1 T12.out).1 hbA.size) (fun e => by
              obtain ⟨_, cur, hc⟩ := (HO12.out.below hbA).blk e.symm
              have h := row_belowQ T12.out hbA
              rw [hc] at h; cases h)).trans (row_belowQ T12.out hbA))
            clear c0 c1 c2 c3 y0 y1 y2 y3 y4 y5 ho9 hg9 hl9 hbA
            obtain ⟨c0, c1, c2, c3⟩ := HC.out w9 HI9.out.bel
            obtain ⟨y0, y1, y2, y3, y4, y5⟩ := T9.out.facts
            simp only [noA] at y0 y1 y2 y3 y4 y5
            skip)
          have HHD2 := Lib.hid HI9.out.h.headQ
          have u1 : ((n : Int) != (n : Int)) = false := by simp
          go_wp2_with fail
          refine HHD2.out.mono ?_
          rintro e wq ⟨rfl, hwq⟩
          have hwq := hwq.symm
          subst hwq
          have HWT := Lib.hid (waits_any HI9.out.q (by have := HI9.out.lt; omega))
          go_wp2_with fail
          refine HWT.out.mono ?_
          rintro e w15 ⟨v15, rfl, hown, hb15⟩
          have HSW := Lib.hid (same_waits hown (HI9.out.o.below hb15) (by have := HI9.out.lt; omega))
          have HIy := Lib.hid (HI9.out.below hb15)
          clear hown hb15 HWT
          go_wp2_with fail
          refine HSW.out.mono ?_
          rintro e w16 ⟨rfl, hb16⟩
          have HIz := Lib.hid (HIy.out.below hb16)
          clear hb16 HIy HSW
          go_wp2_with fail
          go_roundw
          case rel => exact ⟨i + 1, _, _, _, _, _, _, _, _, _, _, _, _, by go_num, by omega, HIz⟩
          case measure => simp [intOf]; omega
        · have u0 : ((se : Int) == 0) = false := by rw [beq_eq_false_iff_ne]; exact hse0
          have hdid := did_sub HI.out.q HI.out.h q HI.out.bel.size (HDX.out.below HI.out.bel) HSX.out (by omega) (key_wf HWX.out)
          unfold doV at hdid
          have HDID := Lib.hid hdid
          clear hdid
          go_wp2_with fail
          refine HHD.out.mono ?_
          rintro e wq ⟨rfl, hwq⟩
          have hwq := hwq.symm
          subst hwq
          go_wp2_with fail
          refine HDID.out.mono ?_
          rintro e w4 ⟨rfl, hp4⟩
          rw [HSE.out] at hp4 ⊢
          have hb4 : Below wr.heap.size wr w4 := by
            rcases hp4 with ⟨_, h⟩ | ⟨h, _⟩
            · exact h
            · exact absurd h hse0
          clear hp4
          simp only [told, noA]
          have HI4 := Lib.hid (HI.out.below hb4)
          clear hb4
          obtain ⟨b12, hb12⟩ : ∃ b, w4.heap.size = b := ⟨_, rfl⟩
          obtain ⟨W12, hW12⟩ : ∃ W, w4.alloc (.cells #[.int .i64 0, .int .i64 0, .int .i64 0, .int .i64 0, .int .i64 0, .bool false] 38) = W := ⟨_, rfl⟩
          have a12 : TolB W12 b12 0 noA false := by unfold TolB; rw [← hW12, ← hb12]; exact heap_alloc_new _ _
          have hbl12 : Below w4.heap.size w4 W12 := by rw [← hW12]; exact (Below.refl _ _).alloc (Nat.le_refl _) _
          obtain ⟨t12, g12⟩ := a12.all se 0 0 0 0 false
          obtain ⟨V12, hV12⟩ : ∃ W, (((((W12.setCell ⟨b12, 0, none⟩ (.int .i64 se)).setCell ⟨b12, 1, none⟩ (.int .i64 0)).setCell ⟨b12, 2, none⟩ (.int .i64 0)).setCell ⟨b12, 3, none⟩ (.int .i64 0)).setCell ⟨b12, 4, none⟩ (.int .i64 0)).setCell ⟨b12, 5, none⟩ (.bool false) = W := ⟨_, rfl⟩
          rw [hV12] at t12 g12
          have hbm12 : Below w4.heap.size w4 V12 := hbl12.grown g12 hbl12.size (fun j e => by cases e; omega)
          obtain ⟨z0, z1, z2, z3, z4, z5⟩ := a12.facts
          obtain ⟨f0, f1, f2, f3, f4, f5⟩ := a12.free
          simp only [noA] at z0 z1 z2 z3 z4
          have HV12 := Lib.hid hV12
          have T12 := Lib.hid t12
          have HBM12 := Lib.hid hbm12
          clear a12 hbl12 t12 g12 hV12 hbm12
          clear c0 c1 c2 c3
          go_upto_region 14 with fail
          rw [HV12.out]
          clear z0 z1 z2 z3 z4 z5 f0 f1 f2 f3 f4 f5 hW12 hb12
          obtain ⟨y0, y1, y2, y3, y4, y5⟩ := T12.out.facts
          simp only [] at y0 y1 y2 y3 y4 y5
          have HI12 := Lib.hid ((HI4.out.below HBM12.out).next)
          obtain ⟨c0, c1, c2, c3⟩ := HC.out V12 HI12.out.bel
          have HHD2 := Lib.hid HI12.out.h.headQ
          have u1 : ((n : Int) != (n : Int)) = false := by simp
          go_wp2_with fail
          refine HHD2.out.mono ?_
          rintro e wq ⟨rfl, hwq⟩
          have hwq := hwq.symm
          subst hwq
          have HWT := Lib.hid (waits_any HI12.out.q (by have := HI12.out.lt; omega))
          go_wp2_with fail
          refine HWT.out.mono ?_
          rintro e w15 ⟨v15, rfl, hown, hb15⟩
          have HSW := Lib.hid (same_waits hown (HI12.out.o.below hb15) (by have := HI12.out.lt; omega))
          have HIy := Lib.hid (HI12.out.below hb15)
          clear hown hb15 HWT
          go_wp2_with fail
          refine HSW.out.mono ?_
          rintro e w16 ⟨rfl, hb16⟩
          have HIz := Lib.hid (HIy.out.below hb16)
          clear hb16 HIy HSW
          go_wp2_with fail
          go_roundw
          case rel => exact ⟨i + 1, _, _, _, _, _, _, _, _, _, _, _, _, by go_num, by omega, HIz⟩
          case measure => simp [intOf]; omega
      by_cases e2 : xk = 2
      · subst e2
        cases Tq with
        | nil =>
          have hdid := did_none_two HI.out.q q
          unfold doV at hdid
          have HDID := Lib.hid hdid
          clear hdid
          go_wp2_with fail
          refine HHD.out.mono ?_
          rintro e wq ⟨rfl, hwq⟩
          have hwq := hwq.symm
          subst hwq
          go_wp2_with fail
          refine HDID.out.mono ?_
          rintro e w4 ⟨rfl, hb4⟩
          simp only [told, noA]
          have HI4 := Lib.hid (HI.out.below hb4)
          clear hb4
          obtain ⟨b12, hb12⟩ : ∃ b, w4.heap.size = b := ⟨_, rfl⟩
          obtain ⟨W12, hW12⟩ : ∃ W, w4.alloc (.cells #[.int .i64 0, .int .i64 0, .int .i64 0, .int .i64 0, .int .i64 0, .bool false] 38) = W := ⟨_, rfl⟩
          have a12 : TolB W12 b12 0 noA false := by unfold TolB; rw [← hW12, ← hb12]; exact heap_alloc_new _ _
          have hbl12 : Below w4.heap.size w4 W12 := by rw [← hW12]; exact (Below.refl _ _).alloc (Nat.le_refl _) _
          obtain ⟨t12, g12⟩ := a12.all 0 0 0 0 0 false
          obtain ⟨V12, hV12⟩ : ∃ W, (((((W12.setCell ⟨b12, 0, none⟩ (.int .i64 0)).setCell ⟨b12, 1, none⟩ (.int .i64 0)).setCell ⟨b12, 2, none⟩ (.int .i64 0)).setCell ⟨b12, 3, none⟩ (.int .i64 0)).setCell ⟨b12, 4, none⟩ (.int .i64 0)).setCell ⟨b12, 5, none⟩ (.bool false) = W := ⟨_, rfl⟩
          rw [hV12] at t12 g12
          have hbm12 : Below w4.heap.size w4 V12 := hbl12.grown g12 hbl12.size (fun j e => by cases e; omega)
          obtain ⟨z0, z1, z2, z3, z4, z5⟩ := a12.facts
          obtain ⟨f0, f1, f2, f3, f4, f5⟩ := a12.free
          simp only [noA] at z0 z1 z2 z3 z4
          have HV12 := Lib.hid hV12
          have T12 := Lib.hid t12
          have HBM12 := Lib.hid hbm12
          clear a12 hbl12 t12 g12 hV12 hbm12
          clear c0 c1 c2 c3
          go_upto_region 14 with fail
          rw [HV12.out]
          clear z0 z1 z2 z3 z4 z5 f0 f1 f2 f3 f4 f5 hW12 hb12
          obtain ⟨y0, y1, y2, y3, y4, y5⟩ := T12.out.facts
          simp only [] at y0 y1 y2 y3 y4 y5
          have HI12 := Lib.hid ((HI4.out.below HBM12.out).next)
          obtain ⟨c0, c1, c2, c3⟩ := HC.out V12 HI12.out.bel
          have HWT := Lib.hid (waits_any HI12.out.q (by have := HI12.out.lt; omega))
          go_wp2_with fail
          refine HWT.out.mono ?_
          rintro e w15 ⟨v15, rfl, hown, hb15⟩
          have HSW := Lib.hid (same_waits hown (HI12.out.o.below hb15) (by have := HI12.out.lt; omega))
          have HIy := Lib.hid (HI12.out.below hb15)
          clear hown hb15 HWT
          go_wp2_with fail
          refine HSW.out.mono ?_
          rintro e w16 ⟨rfl, hb16⟩
          have HIz := Lib.hid (HIy.out.below hb16)
          clear hb16 HIy HSW
          go_wp2_with fail
          go_roundw
          case rel => exact ⟨i + 1, _, _, _, _, _, _, _, _, _, _, _, _, by go_num, by omega, HIz⟩
          case measure => simp [intOf]; omega
        | cons y Tq =>
          have hlc : (y :: Tq).length = Tq.length + 1 := rfl
          rw [hlc] at hlt4
          clear hlc
          have hdid := did_step_two w HI.out.q HI.out.h HNE.out HI.out.bel (by omega) (by omega) (by omega) HM.out (key_wf (HI.out.ids y (by simp))) q
          unfold doV at hdid
          have HDID := Lib.hid hdid
          clear hdid
          obtain ⟨mt, hmt⟩ : ∃ m, Tq.length + 1 = m := ⟨_, rfl⟩
          obtain ⟨go, oo, co, hvo⟩ : ∃ go oo co, u8 = .slice (some ⟨go, oo, none⟩) mt co := by
            rcases HI.out.o with ⟨_, h⟩ | ⟨go, oo, co, _, h, _⟩
            · cases h
            · exact ⟨go, oo, co, by rw [h, ← hmt]; simp⟩
          subst hvo
          have HMT := Lib.hid hmt
          clear hmt
          go_wp2_with fail
          refine HHD.out.mono ?_
          rintro e wq ⟨rfl, hwq⟩
          have hwq := hwq.symm
          subst hwq
          go_wp2_with fail
          refine HDID.out.mono ?_
          rintro e w4 ⟨a, v4, rfl, hq4, hst4, hbw4, hf4, hv4⟩
          obtain ⟨i0, i1, i2, i3⟩ := a
          have hid := hst4.id
          simp only at hid
          subst hid
          simp only [told]
          obtain ⟨lb, n2, hlb1, hlb0, nm2, M2, nv2, cv2, k2, D2, H2, hH2⟩ : ∃ (lb : Bool) (n2 : Nat), (lb = true → i1 = 1 ∧ i2 = ((n + 1 : Nat) : Int) ∧ n2 = n + 1) ∧ (lb = false → i1 ≠ 1 ∧ n2 = n) ∧ ∃ nm M nv cv k D H, HistAt w.heap.size w4 hb n2 nm M nv cv mb k D H := by
            rcases hst4 with ⟨⟨_, h⟩ | ⟨_, _, h⟩ | ⟨_, _, q', _, _, h⟩, nv', cv', k', D', hh⟩ | ⟨_, _, h, nm', nv', cv', k', D', G', _, hh⟩
            · cases h
              exact ⟨false, n, fun h => (by cases h), fun _ => ⟨by decide, rfl⟩, _, _, _, _, _, _, _, hh⟩
            · cases h
              exact ⟨false, n, fun h => (by cases h), fun _ => ⟨by decide, rfl⟩, _, _, _, _, _, _, _, hh⟩
            · cases h
              exact ⟨false, n, fun h => (by cases h), fun _ => ⟨by decide, rfl⟩, _, _, _, _, _, _, _, hh⟩
            · cases h
              exact ⟨true, n + 1, fun _ => ⟨rfl, rfl, rfl⟩, fun h => (by cases h), _, _, _, _, _, _, _, hh⟩
          obtain ⟨r1, hr1⟩ : ∃ r : Int, ((n + 1 : Nat) : Int) = r := ⟨_, rfl⟩
          rw [hr1] at hlb1
          have HLB1 := Lib.hid hlb1
          clear hlb1
          have HQ4 := Lib.hid hq4
          have HO4 := Lib.hid (HI.out.o.frame HI.out.q hf4)
          have HR4 := Lib.hid (HI.out.r.frame HI.out.q hf4)
          have HH4 := Lib.hid hH2
          have HB4 := Lib.hid (HI.out.bel.trans hbw4)
          have HR1 := Lib.hid hr1
          have HLB0 := Lib.hid hlb0
          clear hq4 hst4 hbw4 hf4 hv4 hlb0 hH2 hr1
          obtain ⟨b12, hb12⟩ : ∃ b, w4.heap.size = b := ⟨_, rfl⟩
          obtain ⟨W12, hW12⟩ : ∃ W, w4.alloc (.cells #[.int .i64 0, .int .i64 0, .int .i64 0, .int .i64 0, .int .i64 0, .bool false] 38) = W := ⟨_, rfl⟩
          have a12 : TolB W12 b12 0 noA false := by unfold TolB; rw [← hW12, ← hb12]; exact heap_alloc_new _ _
          have hbl12 : Below w4.heap.size w4 W12 := by rw [← hW12]; exact (Below.refl _ _).alloc (Nat.le_refl _) _
          obtain ⟨t12, g12⟩ := a12.all 0 y.id i1 i2 i3 true
          obtain ⟨V12, hV12⟩ : ∃ W, (((((W12.setCell ⟨b12, 0, none⟩ (.int .i64 0)).setCell ⟨b12, 1, none⟩ (.int .i64 y.id)).setCell ⟨b12, 2, none⟩ (.int .i64 i1)).setCell ⟨b12, 3, none⟩ (.int .i64 i2)).setCell ⟨b12, 4, none⟩ (.int .i64 i3)).setCell ⟨b12, 5, none⟩ (.bool true) = W := ⟨_, rfl⟩
          rw [hV12] at t12 g12
          have hbm12 : Below w4.heap.size w4 V12 := hbl12.grown g12 hbl12.size (fun j e => by cases e; omega)
          obtain ⟨z0, z1, z2, z3, z4, z5⟩ := a12.facts
          obtain ⟨f0, f1, f2, f3, f4, f5⟩ := a12.free
          simp only [noA] at z0 z1 z2 z3 z4
          have HV12 := Lib.hid hV12
          have T12 := Lib.hid t12
          have HBM12 := Lib.hid hbm12
          clear a12 hbl12 t12 g12 hV12 hbm12
          clear c0 c1 c2 c3
          go_upto_region 14 with fail
          rw [HV12.out]
          clear z0 z1 z2 z3 z4 z5 f0 f1 f2 f3 f4 f5 hW12 hb12
          obtain ⟨y0, y1, y2, y3, y4, y5⟩ := T12.out.facts
          simp only [] at y0 y1 y2 y3 y4 y5
          have HQ12 := Lib.hid (HQ4.out.below HBM12.out)
          have HO12 := Lib.hid (HO4.out.below HBM12.out)
          have HR12 := Lib.hid (HR4.out.below HBM12.out)
          have HH12 := Lib.hid (HH4.out.below HBM12.out)
          have HB12 := Lib.hid (HB4.out.trans (HBM12.out.mono HB4.out.size))
          have HHD12 := Lib.hid (fun (q : Nat) => (HH12.out.below (belowQn (Below.refl _ _) q)).headQ)
          obtain ⟨c0, c1, c2, c3⟩ := HC.out V12 HB12.out
          clear HQ4 HO4 HR4 HH4 HB4 HBM12
          go_wp2_with fail
          have x0 := HO12.out.first
          have wn : IntKind.i64.wrap ((n : Int) + 1) = r1 := by rw [IntWalk.i64_in _ (by omega)]; have := HR1.out; omega
          have mt0 : 0 < mt := by have := HMT.out; omega
          have mt1 : ((mt : Int) == 0) = false := by rw [beq_eq_false_iff_ne]; omega
          have mt2 : (mt == 0) = false := by rw [beq_eq_false_iff_ne]; omega
          have mt3 : (0 : Int) < (mt : Int) := by omega
          have u1 : ((y.id : Int) != (y.id : Int)) = false := by simp
          have u2 : ((r1 : Int) != (r1 : Int)) = false := by simp
          cases lb with
          | true =>
            obtain ⟨h1, h2, h3⟩ := HLB1.out rfl
            subst h1
            have HI2 := Lib.hid h2
            have e1 : ((n2 : Int) == r1) = true := by rw [beq_iff_eq]; have := HR1.out; omega
            have HN2 := Lib.hid h3
            have e9 : ((i2 : Int) != r1) = false := by rw [h2]; simp
            clear h3 h2
            go_quiet ((go_at_call 11; exact Calls.quiet_of_same (HHD12.out _)))
            obtain ⟨W13, hW13⟩ : ∃ W, V12.drewN nq = W := ⟨_, rfl⟩
            have hb13 : Below V12.heap.size V12 W13 := by rw [← hW13]; exact belowQn (Below.refl _ _) _
            rw [hW13]
            have T13 := Lib.hid (show TolB W13 b12 0 ⟨y.id, 1, i2, i3⟩ true from row_belowQ T12.out hb13)
            obtain ⟨Aq, hAq⟩ : ∃ Aq, (if co = 1 then (some ⟨go, oo, none⟩ : Option Addr) else some ⟨go, oo + 1, none⟩) = Aq := ⟨_, rfl⟩
            obtain ⟨m1, hm1⟩ : ∃ m, mt - 1 = m := ⟨_, rfl⟩
            obtain ⟨co1, hco1⟩ : ∃ m, co - 1 = m := ⟨_, rfl⟩
            have hmm : Tq.length = m1 := by have := HMT.out; omega
            have ho13 := (HO12.out.below hb13).cut
            rw [hAq, hco1, show (List.map QX.id Tq).length = m1 by rw [List.length_map]; exact hmm] at ho13
            have HM1 := Lib.hid hmm
            have htb : tailB (.slice Aq m1 co1) = some go := by
              rw [← hAq]
              split <;> rfl
            have hcap : co ≥ 1 := by
              rcases HO12.out with ⟨h, _⟩ | ⟨_, _, _, _, e, _, _, _, h4, _⟩
              · cases h
              · cases e
                rw [List.length_map] at h4
                exact Nat.le_trans (by simp) h4
            have HO13 := Lib.hid (show IntsT w.heap.size W13 (.slice Aq m1 co1) (Tq.map QX.id) from ho13)
            have HR13 := Lib.hid (HR12.out.below hb13)
            have HQ13 := Lib.hid (HQ12.out.below hb13)
            have HH13 := Lib.hid (HH12.out.below hb13)
            have HB13 := Lib.hid (HB12.out.trans (hb13.mono HB12.out.size))
            have HTB := Lib.hid htb
            have HAP := Lib.hid (show tailB u9 ≠ some go from HI.out.ap go rfl)
            clear x0 wn mt1 mt2 u1 u2 e1 e9 c0 c1 c2 c3 y0 y1 y2 y3 y4 y5 hW13 hb13 ho13 hmm htb
            obtain ⟨y0, y1, y2, y3, y4, y5⟩ := T13.out.facts
            simp only at y0 y1 y2 y3 y4 y5
            have hbA : Below W13.heap.size W13 (W13.alloc (.cells #[.int .i64 i2] 3)) := (Below.refl _ _).alloc (Nat.le_refl _) _
            have hszA := HB13.out.size
            go_wp2_with (
              at_builtin
              refine wpList_appTail (base := w.heap.size) rfl _ _ rfl rfl (HR13.out.below hbA) W13.heap.size rfl (cell_of_row _ _ 0 _ _ _ (heap_alloc_new W13 _)) (by have := HI.out.lt; omega) (by rw [World.size_alloc]; omega) ?_
              intro v9 Wq ho9 hg9 hl9
              have hqh := (HR13.out.below hbA).queue (HQ13.out.below hbA) (HH13.out.below hbA) hg9
              have hgo : go < (W13.alloc (.cells #[.int .i64 i2] 3)).heap.size := by
                obtain ⟨_, cur, hc⟩ := (HO13.out.below hbA).blk HTB.out
                exact (Array.getElem?_eq_some_iff.1 hc).1
              have HIq := Lib.hid (show OnceI w Wq qb hb ab mb (.slice Aq m1 co1) v9 (i + 1) n2 Tq (⟨y.id, 1, i2, i3⟩ :: L) v4 nm2 M2 nv2 cv2 k2 D2 H2 (rv ++ [i2]) from
                ⟨hqh.1, hqh.2, (HO13.out.below hbA).apart hg9 (fun j e e2 => by rw [HTB.out] at e2; cases e2; exact HAP.out e), ho9, List.pairwise_append.2 ⟨HI.out.ris, List.pairwise_singleton _ _, fun x hx z hz => by
                  obtain rfl : z = i2 := by simpa using hz
                  have h1 := HI.out.top x hx
                  have h2 := HI2.out
                  have h3 := HR1.out
                  omega⟩, fun x hx => by
                  rcases List.mem_append.1 hx with hx | hx
                  · have h1 := HI.out.top x hx
                    have h2 := HN2.out
                    omega
                  · obtain rfl : x = i2 := by simpa using hx
                    have h2 := HN2.out
                    have h3 := HI2.out
                    have h4 := HR1.out
                    omega, fun j e e2 => by
                  rw [HTB.out] at e
                  cases e
                  rcases hl9 with h | ⟨j', h, hj'⟩
                  · rw [h] at e2; exact HAP.out e2
                  · rw [h] at e2
                    cases e2
                    omega, fun x hx => HI.out.ids x (by simp [hx]), by have := HI.out.lt; have := HN2.out; have := HM1.out; have := HMT.out; simp only [List.length_append, List.length_cons, List.length_nil] at *; omega, (HB13.out.trans (hbA.mono HB13.out.size)).grown hg9 (by rw [World.size_alloc]; omega) (fun j e => ((HR13.out.below hbA).blk e.symm.symm).1)⟩)
              have TQ := Lib.hid (show TolB Wq b12 0 ⟨y.id, 1, i2, i3⟩ true from (hg9.block b12 (Nat.lt_of_lt_of_le (Array.getElem?_eq_some_iff.1 T13.out).1 hbA.size) (fun e => by
                obtain ⟨_, cur, hc⟩ := (HR13.out.below hbA).blk e.symm
                have h := row_belowQ T13.out hbA
                rw [hc] at h; cases h)).trans (row_belowQ T13.out hbA))
              clear y0 y1 y2 y3 y4 y5 ho9 hg9 hl9 hbA hqh hgo hAq hm1 hco1
              skip)
            obtain ⟨_, c1, c2, c3⟩ := HC.out Wq HIq.out.bel
            have y1 := TQ.out.facts.2.1
            simp only at y1
            obtain ⟨W24, hW24⟩ : ∃ W, Wq.drew = W := ⟨_, rfl⟩
            have hb24 : Below Wq.heap.size Wq W24 := by rw [← hW24]; exact (Below.refl _ _).drew
            have HI24 := Lib.hid (HIq.out.below hb24)
            have T24 := Lib.hid (show TolB W24 b12 0 ⟨y.id, 1, i2, i3⟩ true from row_belowQ TQ.out hb24)
            have hsub := submit_any HI24.out.q HI24.out.h q HI24.out.bel.size (HDX.out.below HI24.out.bel) HSX.out (by have := HI24.out.lt; omega) (key_wf HWX.out)
            unfold QX.v at hsub
            have HSUB := Lib.hid hsub
            clear hsub hb24
            obtain ⟨sf, hsf⟩ : ∃ s, subE n2 100 Tq (⟨y.id, 1, i2, i3⟩ :: L) q = s := ⟨_, rfl⟩
            have HSE := Lib.hid hsf
            clear hsf
            go_wp2_with fail
            by_cases hse0 : sf = 0
            · subst hse0
              have hne : ((q.id : Int) == (y.id : Int)) = false := by
                rw [beq_eq_false_iff_ne]
                intro e
                have h1 := sub_zeroA HSE.out
                rw [e] at h1
                exact absurd (hasA_self ⟨y.id, 1, i2, i3⟩ L) (by rw [show (⟨y.id, 1, i2, i3⟩ : AX).id = y.id from rfl, h1]; decide)
              refine wp_region_held_drew (S := (fun w' => w'.cell? ⟨g, o + i * 4 + 1, none⟩ = some (.int .i64 q.id) ∧ w'.cell? ⟨g, o + i * 4 + 2, none⟩ = some (.int .i64 q.base) ∧ w'.cell? ⟨g, o + i * 4 + 3, none⟩ = some (.slice q.A q.l.length q.c) ∧ w'.cell? ⟨b12, 1, none⟩ = some (.int .i64 y.id))) (by kernel_rfl) ⟨c1, c2, c3, y1⟩ (fun hHeld => ?_)
              refine wpAnyH_take (i := 0) (v := ?vatwp0) rfl (by kernel_rfl) (by kernel_rfl) (by kernel_rfl) (fun _ _ _ h => h) (Or.inl ⟨by rfl, ?yatwp0⟩) (by assumption) ?ratwp0
              case yatwp0 =>
                intro w hSw
                (try dsimp only at hSw)
                go_simp
                first | done | with_reducible rfl
              try simp only [Act.put, List.getElem_toArray, List.getElem_cons_zero, List.setIfInBounds_toArray, List.set_cons_zero, List.set_cons_succ]
              refine wpAnyH_take (i := 1) (v := ?vatwp1) rfl (by kernel_rfl) (by kernel_rfl) (by kernel_rfl) (fun _ _ _ h => h) (Or.inl ⟨by rfl, ?yatwp1⟩) (by assumption) ?ratwp1
              case yatwp1 =>
                intro w hSw
                (try dsimp only at hSw)
                go_simp
                first | done | with_reducible rfl
              try simp only [Act.put, List.getElem_toArray, List.getElem_cons_zero, List.getElem_cons_succ, List.setIfInBounds_toArray, List.set_cons_zero, List.set_cons_succ]
              refine wpAnyH_take (i := 2) (v := ?vatwp2) rfl (by kernel_rfl) (by kernel_rfl) (by kernel_rfl) (fun _ _ _ h => h) (Or.inl ⟨by rfl, ?yatwp2⟩) (by assumption) ?ratwp2
              case yatwp2 =>
                intro w hSw
                (try dsimp only at hSw)
                go_simp
                first | done | with_reducible rfl
              try simp only [Act.put, List.getElem_toArray, List.getElem_cons_zero, List.getElem_cons_succ, List.setIfInBounds_toArray, List.set_cons_zero, List.set_cons_succ]
              refine wpAnyH_take (i := 3) (v := ?vatwp3) rfl (by kernel_rfl) (by kernel_rfl) (by kernel_rfl) (fun _ _ _ h => h) (Or.inl ⟨by rfl, ?yatwp3⟩) (by assumption) ?ratwp3
              case yatwp3 =>
                intro w hSw
                (try dsimp only at hSw)
                go_simp
                first | done | with_reducible rfl
              try simp only [Act.put, List.getElem_toArray, List.getElem_cons_zero, List.getElem_cons_succ, List.setIfInBounds_toArray, List.set_cons_zero, List.set_cons_succ]
              refine wpAnyH_take (i := 4) (v := ?vatwp4) rfl (by kernel_rfl) (by kernel_rfl) (by kernel_rfl) (fun _ _ _ h => h) (Or.inl ⟨by rfl, ?yatwp4⟩) (by assumption) ?ratwp4
              case yatwp4 =>
                intro w hSw
                (try dsimp only at hSw)
                go_simp
                first | done | with_reducible rfl
              try simp only [Act.put, List.getElem_toArray, List.getElem_cons_zero, List.getElem_cons_succ, List.setIfInBounds_toArray, List.set_cons_zero, List.set_cons_succ]
              refine wpAnyH_take (i := 5) (v := ?vatwp5) rfl (by kernel_rfl) (by kernel_rfl) (by kernel_rfl) (fun _ _ _ h => h) (Or.inl ⟨by rfl, ?yatwp5⟩) (by assumption) ?ratwp5
              case yatwp5 =>
                intro w hSw
                (try dsimp only at hSw)
                go_simp
                first | done | with_reducible rfl
              try simp only [Act.put, List.getElem_toArray, List.getElem_cons_zero, List.getElem_cons_succ, List.setIfInBounds_toArray, List.set_cons_zero, List.set_cons_succ]
              refine wpAnyH_ready (rs := [6]) (by kernel_rfl) (by simp) ?_
              refine AllReadyH.cons rfl (fun K hK => ?_) AllReadyH.nil
              go_simp
              refine HSUB.out.mono ?_
              rintro e w7 ⟨rfl, hp7⟩
              rw [HSE.out] at hp7 ⊢
              rcases hp7 with ⟨h, _⟩ | ⟨_, v7, z, hq7, ⟨hz1, hz2, hz3⟩, ht7, hv7⟩
              · exact absurd rfl h
              have hb7 : Below w.heap.size w w7 := HI24.out.bel.trans (ht7.below (n := w.heap.size) (fun j e => by
                rcases e with rfl | e
                · exact HI24.out.q.lq
                · exact (HI24.out.q.waits.far e).1) HI24.out.bel.size)
              have t7 : TolB w7 b12 0 ⟨y.id, 1, i2, i3⟩ true := (ht7.block b12 (Array.getElem?_eq_some_iff.1 T24.out).1 (fun e => by
                have h := T24.out
                unfold TolB at h
                rcases e with e | e
                · rw [e, HI24.out.q.heap] at h; cases h
                · obtain ⟨_, cur2, hy⟩ := HI24.out.q.waits.far e
                  rw [hy] at h; cases h)).trans T24.out
              have HQ7 := Lib.hid hq7
              have HT7 := Lib.hid ht7
              have HZ1 := Lib.hid hz1
              obtain ⟨_, c1, c2, c3⟩ := HC.out w7 hb7
              have hHeld := (show _ ∧ _ ∧ _ ∧ _ from ⟨c1, c2, c3, t7.facts.2.1⟩)
              have HB7 := Lib.hid hb7
              clear hq7 hz1 hz2 hz3 ht7 hv7 hb7 t7 c1 c2 c3
              refine hK.out _ _ hHeld (fun hHeld => ?_)
              clear hK K
              try simp only [Act.put, List.getElem_toArray, List.getElem_cons_zero, List.getElem_cons_succ, List.setIfInBounds_toArray, List.set_cons_zero, List.set_cons_succ]
              refine wpAnyH_take (i := 7) (v := ?vatwp7) rfl (by kernel_rfl) (by kernel_rfl) (by kernel_rfl) (fun _ _ _ h => h) (Or.inl ⟨by rfl, ?yatwp7⟩) (by assumption) ?ratwp7
              case yatwp7 =>
                intro w hSw
                (try dsimp only at hSw)
                go_simp
                first | done | with_reducible rfl
              try simp only [Act.put, List.getElem_toArray, List.getElem_cons_zero, List.getElem_cons_succ, List.setIfInBounds_toArray, List.set_cons_zero, List.set_cons_succ]
              refine wpAnyH_take (i := 8) (v := ?vatwp8) rfl (by kernel_rfl) (by kernel_rfl) (by kernel_rfl) (fun _ _ _ h => h) (Or.inl ⟨by rfl, ?yatwp8⟩) (by assumption) ?ratwp8
              case yatwp8 =>
                intro w hSw
                (try dsimp only at hSw)
                go_simp
                first | done | with_reducible rfl
              try simp only [Act.put, List.getElem_toArray, List.getElem_cons_zero, List.getElem_cons_succ, List.setIfInBounds_toArray, List.set_cons_zero, List.set_cons_succ]
              refine wpAnyH_take (i := 9) (v := ?vatwp9) rfl (by kernel_rfl) (by kernel_rfl) (by kernel_rfl) (fun _ _ _ h => h) (Or.inl ⟨by rfl, ?yatwp9⟩) (by assumption) ?ratwp9
              case yatwp9 =>
                intro w hSw
                (try dsimp only at hSw)
                go_simp
                first | done | with_reducible rfl
              try simp only [Act.put, List.getElem_toArray, List.getElem_cons_zero, List.getElem_cons_succ, List.setIfInBounds_toArray, List.set_cons_zero, List.set_cons_succ]
              refine wpAnyH_take (i := 10) (v := ?vatwp10) rfl (by kernel_rfl) (by kernel_rfl) (by kernel_rfl) (fun _ _ _ h => h) (Or.inl ⟨by rfl, ?yatwp10⟩) (by assumption) ?ratwp10
              case yatwp10 =>
                intro w hSw
                (try dsimp only at hSw)
                go_simp
                first | done | with_reducible rfl
              try simp only [Act.put, List.getElem_toArray, List.getElem_cons_zero, List.getElem_cons_succ, List.setIfInBounds_toArray, List.set_cons_zero, List.set_cons_succ]
              refine wpAnyH_take (i := 11) (v := ?vatwp11) rfl (by kernel_rfl) (by kernel_rfl) (by kernel_rfl) (fun _ _ _ h => h) (Or.inl ⟨by rfl, ?yatwp11⟩) (by assumption) ?ratwp11
              case yatwp11 =>
                intro w hSw
                (try dsimp only at hSw)
                go_simp
                first | done | with_reducible rfl
              try simp only [Act.put, List.getElem_toArray, List.getElem_cons_zero, List.getElem_cons_succ, List.setIfInBounds_toArray, List.set_cons_zero, List.set_cons_succ]
              refine wpAnyH_take (i := 12) (v := ?vatwp12) rfl (by kernel_rfl) (by kernel_rfl) (by kernel_rfl) (fun _ _ _ h => h) (Or.inl ⟨by rfl, ?yatwp12⟩) (by assumption) ?ratwp12
              case yatwp12 =>
                intro w hSw
                (try dsimp only at hSw)
                go_simp
                first | done | with_reducible rfl
              try simp only [Act.put, List.getElem_toArray, List.getElem_cons_zero, List.getElem_cons_succ, List.setIfInBounds_toArray, List.set_cons_zero, List.set_cons_succ]
              refine wpAnyH_take (i := 13) (v := ?vatwp13) rfl (by kernel_rfl) (by kernel_rfl) (by kernel_rfl) (fun _ _ _ h => h) (Or.inl ⟨by rfl, ?yatwp13⟩) (by assumption) ?ratwp13
              case yatwp13 =>
                intro w hSw
                (try dsimp only at hSw)
                go_simp
                first | done | with_reducible rfl
              try simp only [Act.put, List.getElem_toArray, List.getElem_cons_zero, List.getElem_cons_succ, List.setIfInBounds_toArray, List.set_cons_zero, List.set_cons_succ]
              refine wpAnyH_take (i := 14) (v := ?vatwp14) rfl (by kernel_rfl) (by kernel_rfl) (by kernel_rfl) (fun _ _ _ h => h) (Or.inl ⟨by rfl, ?yatwp14⟩) (by assumption) ?ratwp14
              case yatwp14 =>
                intro w hSw
                (try dsimp only at hSw)
                go_simp
                first | done | with_reducible rfl
              try simp only [Act.put, List.getElem_toArray, List.getElem_cons_zero, List.getElem_cons_succ, List.setIfInBounds_toArray, List.set_cons_zero, List.set_cons_succ]
              refine wpAnyH_take (i := 15) (v := ?vatwp15) rfl (by kernel_rfl) (by kernel_rfl) (by kernel_rfl) (fun _ _ _ h => h) (Or.inl ⟨by rfl, ?yatwp15⟩) (by assumption) ?ratwp15
              case yatwp15 =>
                intro w hSw
                (try dsimp only at hSw)
                go_simp
                first | done | with_reducible rfl
              try simp only [Act.put, List.getElem_toArray, List.getElem_cons_zero, List.getElem_cons_succ, List.setIfInBounds_toArray, List.set_cons_zero, List.set_cons_succ]
              refine wpAnyH_take (i := 16) (v := ?vatwp16) rfl (by kernel_rfl) (by kernel_rfl) (by kernel_rfl) (fun _ _ _ h => h) (Or.inl ⟨by rfl, ?yatwp16⟩) (by assumption) ?ratwp16
              case yatwp16 =>
                intro w hSw
                (try dsimp only at hSw)
                go_simp
                first | done | with_reducible rfl
              try simp only [Act.put, List.getElem_toArray, List.getElem_cons_zero, List.getElem_cons_succ, List.setIfInBounds_toArray, List.set_cons_zero, List.set_cons_succ]
              refine wpAnyH_take (i := 17) (v := ?vatwp17) rfl (by kernel_rfl) (by kernel_rfl) (by kernel_rfl) (fun _ _ _ h => h) (Or.inl ⟨by rfl, ?yatwp17⟩) (by assumption) ?ratwp17
              case yatwp17 =>
                intro w hSw
                (try dsimp only at hSw)
                go_simp
                first | done | with_reducible rfl
              try simp only [Act.put, List.getElem_toArray, List.getElem_cons_zero, List.getElem_cons_succ, List.setIfInBounds_toArray, List.set_cons_zero, List.set_cons_succ]
              refine wpAnyH_take (i := 18) (v := ?vatwp18) rfl (by kernel_rfl) (by kernel_rfl) (by kernel_rfl) (fun _ _ _ h => h) (Or.inl ⟨by rfl, ?yatwp18⟩) (by assumption) ?ratwp18
              case yatwp18 =>
                intro w hSw
                (try dsimp only at hSw)
                go_simp
                first | done | with_reducible rfl
              try simp only [Act.put, List.getElem_toArray, List.getElem_cons_zero, List.getElem_cons_succ, List.setIfInBounds_toArray, List.set_cons_zero, List.set_cons_succ]
              refine wpAnyH_take (i := 19) (v := ?vatwp19) rfl (by kernel_rfl) (by kernel_rfl) (by kernel_rfl) (fun _ _ _ h => h) (Or.inl ⟨by rfl, ?yatwp19⟩) (by assumption) ?ratwp19
              case yatwp19 =>
                intro w hSw
                (try dsimp only at hSw)
                go_simp
                first | done | with_reducible rfl
              try simp only [Act.put, List.getElem_toArray, List.getElem_cons_zero, List.getElem_cons_succ, List.setIfInBounds_toArray, List.set_cons_zero, List.set_cons_succ]
              refine wpAnyH_done (by kernel_rfl) ?_ _
              have HWT := Lib.hid (waits_any HQ7.out (by rw [List.length_append]; have := HI24.out.lt; simp only [List.length_singleton]; omega))
              clear y1
              go_wp2_with fail
              refine HWT.out.mono ?_
              rintro e w8 ⟨v15, rfl, hown, hb8⟩
              obtain ⟨A15, c15, hv, -, -, -⟩ := ints_slice (l := (Tq ++ [z]).map QX.id) (by rw [← idsV_ints, List.length_map]; exact hown)
              rw [List.length_map, List.length_append, List.length_singleton, HM1.out] at hv
              obtain ⟨mq, hmq⟩ : ∃ m, m1 + 1 = m := ⟨_, rfl⟩
              rw [hmq] at hv
              subst hv
              have gq : (m1 : Int) < (mq : Int) := by omega
              have HO8 := Lib.hid ((HI24.out.o.turn HI24.out.q HT7.out).below hb8)
              have HB8 := Lib.hid hb8
              have HBW8 := Lib.hid (HB7.out.trans (hb8.mono HB7.out.size))
              obtain ⟨_, c1, _, _⟩ := HC.out w8 HBW8.out
              have hbA : Below w8.heap.size w8 (w8.alloc (.cells #[.int .i64 q.id] 3)) := (Below.refl _ _).alloc (Nat.le_refl _) _
              have hszA := HBW8.out.size
              clear hown hb8 hmq HWT
              go_wp2_with (
                at_builtin
                refine wpList_appTail (base := w.heap.size) rfl _ _ rfl rfl (HO8.out.below hbA) w8.heap.size rfl (cell_of_row _ _ 0 _ _ _ (heap_alloc_new w8 _)) (by rw [List.length_map]; have := HI24.out.lt; omega) (by rw [World.size_alloc]; omega) ?_
                intro v9 w9 ho9 hg9 hl9
                have HI28 := Lib.hid (HI24.out.pushed (y := z) (v' := v7) (j := i + 1) (by have := HI24.out.lt; have := HM1.out; have := HMT.out; omega) HQ7.out HT7.out (by rw [HZ1.out]; exact HWX.out) (HB8.out.trans (hbA.mono HB8.out.size)) (by rw [HZ1.out]; exact ho9) hg9 hl9)
                clear ho9 hg9 hl9 hbA c1
                skip)
              have HWT := Lib.hid (waits_any HI28.out.q (by have := HI28.out.lt; omega))
              go_wp2_with fail
              refine HWT.out.mono ?_
              rintro e w15 ⟨v15, rfl, hown, hb15⟩
              have HSW := Lib.hid (same_waits hown (HI28.out.o.below hb15) (by have := HI28.out.lt; omega))
              have HIy := Lib.hid (HI28.out.below hb15)
              clear hown hb15 HWT
              go_wp2_with fail
              refine HSW.out.mono ?_
              rintro e w16 ⟨rfl, hb16⟩
              have HIz := Lib.hid (HIy.out.below hb16)
              clear hb16 HIy HSW
              go_wp2_with fail
              go_roundw
              case rel => exact ⟨i + 1, _, _, _, _, _, _, _, _, _, _, _, _, by go_num, by omega, HIz⟩
              case measure => simp [intOf]; omega
            · have u9q : ((sf : Int) == 0) = false := by rw [beq_eq_false_iff_ne]; exact hse0
              refine wp_region_held_drew (S := (fun w' => w'.cell? ⟨g, o + i * 4 + 1, none⟩ = some (.int .i64 q.id) ∧ w'.cell? ⟨g, o + i * 4 + 2, none⟩ = some (.int .i64 q.base) ∧ w'.cell? ⟨g, o + i * 4 + 3, none⟩ = some (.slice q.A q.l.length q.c) ∧ w'.cell? ⟨b12, 1, none⟩ = some (.int .i64 y.id))) (by kernel_rfl) ⟨c1, c2, c3, y1⟩ (fun hHeld => ?_)
              refine wpAnyH_take (i := 0) (v := ?vatwn0) rfl (by kernel_rfl) (by kernel_rfl) (by kernel_rfl) (fun _ _ _ h => h) (Or.inl ⟨by rfl, ?yatwn0⟩) (by assumption) ?ratwn0
              case yatwn0 =>
                intro w hSw
                (try dsimp only at hSw)
                go_simp
                first | done | with_reducible rfl
              try simp only [Act.put, List.getElem_toArray, List.getElem_cons_zero, List.setIfInBounds_toArray, List.set_cons_zero, List.set_cons_succ]
              refine wpAnyH_take (i := 1) (v := ?vatwn1) rfl (by kernel_rfl) (by kernel_rfl) (by kernel_rfl) (fun _ _ _ h => h) (Or.inl ⟨by rfl, ?yatwn1⟩) (by assumption) ?ratwn1
              case yatwn1 =>
                intro w hSw
                (try dsimp only at hSw)
                go_simp
                first | done | with_reducible rfl
              try simp only [Act.put, List.getElem_toArray, List.getElem_cons_zero, List.getElem_cons_succ, List.setIfInBounds_toArray, List.set_cons_zero, List.set_cons_succ]
              refine wpAnyH_take (i := 2) (v := ?vatwn2) rfl (by kernel_rfl) (by kernel_rfl) (by kernel_rfl) (fun _ _ _ h => h) (Or.inl ⟨by rfl, ?yatwn2⟩) (by assumption) ?ratwn2
              case yatwn2 =>
                intro w hSw
                (try dsimp only at hSw)
                go_simp
                first | done | with_reducible rfl
              try simp only [Act.put, List.getElem_toArray, List.getElem_cons_zero, List.getElem_cons_succ, List.setIfInBounds_toArray, List.set_cons_zero, List.set_cons_succ]
              refine wpAnyH_take (i := 3) (v := ?vatwn3) rfl (by kernel_rfl) (by kernel_rfl) (by kernel_rfl) (fun _ _ _ h => h) (Or.inl ⟨by rfl, ?yatwn3⟩) (by assumption) ?ratwn3
              case yatwn3 =>
                intro w hSw
                (try dsimp only at hSw)
                go_simp
                first | done | with_reducible rfl
              try simp only [Act.put, List.getElem_toArray, List.getElem_cons_zero, List.getElem_cons_succ, List.setIfInBounds_toArray, List.set_cons_zero, List.set_cons_succ]
              refine wpAnyH_take (i := 4) (v := ?vatwn4) rfl (by kernel_rfl) (by kernel_rfl) (by kernel_rfl) (fun _ _ _ h => h) (Or.inl ⟨by rfl, ?yatwn4⟩) (by assumption) ?ratwn4
              case yatwn4 =>
                intro w hSw
                (try dsimp only at hSw)
                go_simp
                first | done | with_reducible rfl
              try simp only [Act.put, List.getElem_toArray, List.getElem_cons_zero, List.getElem_cons_succ, List.setIfInBounds_toArray, List.set_cons_zero, List.set_cons_succ]
              refine wpAnyH_take (i := 5) (v := ?vatwn5) rfl (by kernel_rfl) (by kernel_rfl) (by kernel_rfl) (fun _ _ _ h => h) (Or.inl ⟨by rfl, ?yatwn5⟩) (by assumption) ?ratwn5
              case yatwn5 =>
                intro w hSw
                (try dsimp only at hSw)
                go_simp
                first | done | with_reducible rfl
              try simp only [Act.put, List.getElem_toArray, List.getElem_cons_zero, List.getElem_cons_succ, List.setIfInBounds_toArray, List.set_cons_zero, List.set_cons_succ]
              refine wpAnyH_ready (rs := [6]) (by kernel_rfl) (by simp) ?_
              refine AllReadyH.cons rfl (fun K hK => ?_) AllReadyH.nil
              go_simp
              refine HSUB.out.mono ?_
              rintro e w7 ⟨rfl, hp7⟩
              rw [HSE.out] at hp7 ⊢
              have hbb7 : Below W24.heap.size W24 w7 := by
                rcases hp7 with ⟨_, h⟩ | ⟨h, _⟩
                · exact h
                · exact absurd h hse0
              have hb7 : Below w.heap.size w w7 := HI24.out.bel.trans (hbb7.mono HI24.out.bel.size)
              have t7 : TolB w7 b12 0 ⟨y.id, 1, i2, i3⟩ true := row_belowQ T24.out hbb7
              have HBB7 := Lib.hid hbb7
              obtain ⟨_, c1, c2, c3⟩ := HC.out w7 hb7
              have hHeld := (show _ ∧ _ ∧ _ ∧ _ from ⟨c1, c2, c3, t7.facts.2.1⟩)
              have HB7 := Lib.hid hb7
              clear hbb7 hb7 t7 hp7 c1 c2 c3
              refine hK.out _ _ hHeld (fun hHeld => ?_)
              clear hK K
              try simp only [Act.put, List.getElem_toArray, List.getElem_cons_zero, List.getElem_cons_succ, List.setIfInBounds_toArray, List.set_cons_zero, List.set_cons_succ]
              refine wpAnyH_take (i := 7) (v := ?vatwn7) rfl (by kernel_rfl) (by kernel_rfl) (by kernel_rfl) (fun _ _ _ h => h) (Or.inl ⟨by rfl, ?yatwn7⟩) (by assumption) ?ratwn7
              case yatwn7 =>
                intro w hSw
                (try dsimp only at hSw)
                go_simp
                first | done | with_reducible rfl
              try simp only [Act.put, List.getElem_toArray, List.getElem_cons_zero, List.getElem_cons_succ, List.setIfInBounds_toArray, List.set_cons_zero, List.set_cons_succ]
              refine wpAnyH_take (i := 8) (v := ?vatwn8) rfl (by kernel_rfl) (by kernel_rfl) (by kernel_rfl) (fun _ _ _ h => h) (Or.inl ⟨by rfl, ?yatwn8⟩) (by assumption) ?ratwn8
              case yatwn8 =>
                intro w hSw
                (try dsimp only at hSw)
                go_simp
                first | done | with_reducible rfl
              try simp only [Act.put, List.getElem_toArray, List.getElem_cons_zero, List.getElem_cons_succ, List.setIfInBounds_toArray, List.set_cons_zero, List.set_cons_succ]
              refine wpAnyH_take (i := 9) (v := undef) rfl (by kernel_rfl) (by kernel_rfl) (by kernel_rfl) (fun _ _ _ h => h) (Or.inr ⟨by rfl, rfl⟩) (by assumption) ?ratwn9
              try simp only [Act.put, List.getElem_toArray, List.getElem_cons_zero, List.getElem_cons_succ, List.setIfInBounds_toArray, List.set_cons_zero, List.set_cons_succ]
              refine wpAnyH_take (i := 10) (v := undef) rfl (by kernel_rfl) (by kernel_rfl) (by kernel_rfl) (fun _ _ _ h => h) (Or.inr ⟨by rfl, rfl⟩) (by assumption) ?ratwn10
              try simp only [Act.put, List.getElem_toArray, List.getElem_cons_zero, List.getElem_cons_succ, List.setIfInBounds_toArray, List.set_cons_zero, List.set_cons_succ]
              refine wpAnyH_take (i := 11) (v := undef) rfl (by kernel_rfl) (by kernel_rfl) (by kernel_rfl) (fun _ _ _ h => h) (Or.inr ⟨by rfl, rfl⟩) (by assumption) ?ratwn11
              try simp only [Act.put, List.getElem_toArray, List.getElem_cons_zero, List.getElem_cons_succ, List.setIfInBounds_toArray, List.set_cons_zero, List.set_cons_succ]
              refine wpAnyH_take (i := 12) (v := undef) rfl (by kernel_rfl) (by kernel_rfl) (by kernel_rfl) (fun _ _ _ h => h) (Or.inr ⟨by rfl, rfl⟩) (by assumption) ?ratwn12
              try simp only [Act.put, List.getElem_toArray, List.getElem_cons_zero, List.getElem_cons_succ, List.setIfInBounds_toArray, List.set_cons_zero, List.set_cons_succ]
              refine wpAnyH_take (i := 13) (v := undef) rfl (by kernel_rfl) (by kernel_rfl) (by kernel_rfl) (fun _ _ _ h => h) (Or.inr ⟨by rfl, rfl⟩) (by assumption) ?ratwn13
              try simp only [Act.put, List.getElem_toArray, List.getElem_cons_zero, List.getElem_cons_succ, List.setIfInBounds_toArray, List.set_cons_zero, List.set_cons_succ]
              refine wpAnyH_take (i := 14) (v := undef) rfl (by kernel_rfl) (by kernel_rfl) (by kernel_rfl) (fun _ _ _ h => h) (Or.inr ⟨by rfl, rfl⟩) (by assumption) ?ratwn14
              try simp only [Act.put, List.getElem_toArray, List.getElem_cons_zero, List.getElem_cons_succ, List.setIfInBounds_toArray, List.set_cons_zero, List.set_cons_succ]
              refine wpAnyH_take (i := 15) (v := undef) rfl (by kernel_rfl) (by kernel_rfl) (by kernel_rfl) (fun _ _ _ h => h) (Or.inr ⟨by rfl, rfl⟩) (by assumption) ?ratwn15
              try simp only [Act.put, List.getElem_toArray, List.getElem_cons_zero, List.getElem_cons_succ, List.setIfInBounds_toArray, List.set_cons_zero, List.set_cons_succ]
              refine wpAnyH_take (i := 16) (v := undef) rfl (by kernel_rfl) (by kernel_rfl) (by kernel_rfl) (fun _ _ _ h => h) (Or.inr ⟨by rfl, rfl⟩) (by assumption) ?ratwn16
              try simp only [Act.put, List.getElem_toArray, List.getElem_cons_zero, List.getElem_cons_succ, List.setIfInBounds_toArray, List.set_cons_zero, List.set_cons_succ]
              refine wpAnyH_take (i := 17) (v := undef) rfl (by kernel_rfl) (by kernel_rfl) (by kernel_rfl) (fun _ _ _ h => h) (Or.inr ⟨by rfl, rfl⟩) (by assumption) ?ratwn17
              try simp only [Act.put, List.getElem_toArray, List.getElem_cons_zero, List.getElem_cons_succ, List.setIfInBounds_toArray, List.set_cons_zero, List.set_cons_succ]
              refine wpAnyH_take (i := 18) (v := undef) rfl (by kernel_rfl) (by kernel_rfl) (by kernel_rfl) (fun _ _ _ h => h) (Or.inr ⟨by rfl, rfl⟩) (by assumption) ?ratwn18
              try simp only [Act.put, List.getElem_toArray, List.getElem_cons_zero, List.getElem_cons_succ, List.setIfInBounds_toArray, List.set_cons_zero, List.set_cons_succ]
              refine wpAnyH_take (i := 19) (v := ?vatwn19) rfl (by kernel_rfl) (by kernel_rfl) (by kernel_rfl) (fun _ _ _ h => h) (Or.inl ⟨by rfl, ?yatwn19⟩) (by assumption) ?ratwn19
              case yatwn19 =>
                intro w hSw
                (try dsimp only at hSw)
                go_simp
                first | done | with_reducible rfl
              try simp only [Act.put, List.getElem_toArray, List.getElem_cons_zero, List.getElem_cons_succ, List.setIfInBounds_toArray, List.set_cons_zero, List.set_cons_succ]
              refine wpAnyH_done (by kernel_rfl) ?_ _
              have HI25 := Lib.hid (HI24.out.below HBB7.out)
              have HWT := Lib.hid (waits_any HI25.out.q (by have := HI25.out.lt; omega))
              clear y1
              go_wp2_with fail
              refine HWT.out.mono ?_
              rintro e w8 ⟨v15, rfl, hown, hb8⟩
              obtain ⟨A15, c15, hv, -, -, -⟩ := ints_slice (l := Tq.map QX.id) (by rw [← idsV_ints, List.length_map]; exact hown)
              rw [List.length_map, HM1.out] at hv
              subst hv
              have gq : ¬ (m1 : Int) < (m1 : Int) := by omega
              have HI28 := Lib.hid (HI25.out.below hb8)
              clear hown hb8 HWT
              have HWT := Lib.hid (waits_any HI28.out.q (by have := HI28.out.lt; omega))
              go_wp2_with fail
              refine HWT.out.mono ?_
              rintro e w15 ⟨v15, rfl, hown, hb15⟩
              have HSW := Lib.hid (same_waits hown (HI28.out.o.below hb15) (by have := HI28.out.lt; omega))
              have HIy := Lib.hid (HI28.out.below hb15)
              clear hown hb15 HWT
              go_wp2_with fail
              refine HSW.out.mono ?_
              rintro e w16 ⟨rfl, hb16⟩
              have HIz := Lib.hid (HIy.out.below hb16)
              clear hb16 HIy HSW
              go_wp2_with fail
              go_roundw
              case rel => exact ⟨i + 1, _, _, _, _, _, _, _, _, _, _, _, _, by go_num, by omega, HIz⟩
              case measure => simp [intOf]; omega
          | false =>
            obtain ⟨h1, h3⟩ := HLB0.out rfl
            have e0 : ((i1 : Int) == 1) = false := by rw [beq_eq_false_iff_ne]; exact h1
            have e1 : ((n2 : Int) == r1) = false := by rw [beq_eq_false_iff_ne]; have := HR1.out; omega
            have HN2 := Lib.hid h3
            clear h3 h1
            go_quiet ((go_at_call 11; exact Calls.quiet_of_same (HHD12.out _)))
            obtain ⟨W13, hW13⟩ : ∃ W, V12.drewN nq = W := ⟨_, rfl⟩
            have hb13 : Below V12.heap.size V12 W13 := by rw [← hW13]; exact belowQn (Below.refl _ _) _
            rw [hW13]
            have T13 := Lib.hid (show TolB W13 b12 0 ⟨y.id, i1, i2, i3⟩ true from row_belowQ T12.out hb13)
            obtain ⟨Aq, hAq⟩ : ∃ Aq, (if co = 1 then (some ⟨go, oo, none⟩ : Option Addr) else some ⟨go, oo + 1, none⟩) = Aq := ⟨_, rfl⟩
            obtain ⟨m1, hm1⟩ : ∃ m, mt - 1 = m := ⟨_, rfl⟩
            obtain ⟨co1, hco1⟩ : ∃ m, co - 1 = m := ⟨_, rfl⟩
            have hmm : Tq.length = m1 := by have := HMT.out; omega
            have ho13 := (HO12.out.below hb13).cut
            rw [hAq, hco1, show (List.map QX.id Tq).length = m1 by rw [List.length_map]; exact hmm] at ho13
            have HM1 := Lib.hid hmm
            have htb : tailB (.slice Aq m1 co1) = some go := by
              rw [← hAq]
              split <;> rfl
            have hcap : co ≥ 1 := by
              rcases HO12.out with ⟨h, _⟩ | ⟨_, _, _, _, e, _, _, _, h4, _⟩
              · cases h
              · cases e
                rw [List.length_map] at h4
                exact Nat.le_trans (by simp) h4
            have HO13 := Lib.hid (show IntsT w.heap.size W13 (.slice Aq m1 co1) (Tq.map QX.id) from ho13)
            have HR13 := Lib.hid (HR12.out.below hb13)
            have HQ13 := Lib.hid (HQ12.out.below hb13)
            have HH13 := Lib.hid (HH12.out.below hb13)
            have HB13 := Lib.hid (HB12.out.trans (hb13.mono HB12.out.size))
            have HTB := Lib.hid htb
            have HAP := Lib.hid (show tailB u9 ≠ some go from HI.out.ap go rfl)
            clear x0 wn mt1 mt2 u1 u2 e1 c0 c1 c2 c3 y0 y1 y2 y3 y4 y5 hW13 hb13 ho13 hmm htb
            obtain ⟨y0, y1, y2, y3, y4, y5⟩ := T13.out.facts
            simp only at y0 y1 y2 y3 y4 y5
            obtain ⟨Wq, hWq⟩ : ∃ W, W13 = W := ⟨_, rfl⟩
            subst hWq
            have HIq := Lib.hid (show OnceI w W13 qb hb ab mb (.slice Aq m1 co1) u9 (i + 1) n2 Tq (⟨y.id, i1, i2, i3⟩ :: L) v4 nm2 M2 nv2 cv2 k2 D2 H2 rv from
              ⟨HQ13.out, HH13.out, HO13.out, HR13.out, HI.out.ris, fun x hx => by have := HI.out.top x hx; have := HN2.out; omega, fun j e e2 => by rw [HTB.out] at e; cases e; exact HAP.out e2, fun x hx => HI.out.ids x (by simp [hx]), by have := HI.out.lt; have := HN2.out; have := HM1.out; have := HMT.out; simp only [List.length_cons] at *; omega, HB13.out⟩)
            have TQ := T13
            go_wp2_with fail
            clear y0 y1 y2 y3 y4 y5 hAq hm1 hco1
            obtain ⟨_, c1, c2, c3⟩ := HC.out W13 HIq.out.bel
            have y1 := TQ.out.facts.2.1
            simp only at y1
            obtain ⟨W24, hW24⟩ : ∃ W, W13.drew = W := ⟨_, rfl⟩
            have hb24 : Below W13.heap.size W13 W24 := by rw [← hW24]; exact (Below.refl _ _).drew
            have HI24 := Lib.hid (HIq.out.below hb24)
            have T24 := Lib.hid (show TolB W24 b12 0 ⟨y.id, i1, i2, i3⟩ true from row_belowQ TQ.out hb24)
            have hsub := submit_any HI24.out.q HI24.out.h q HI24.out.bel.size (HDX.out.below HI24.out.bel) HSX.out (by have := HI24.out.lt; omega) (key_wf HWX.out)
            unfold QX.v at hsub
            have HSUB := Lib.hid hsub
            clear hsub hb24
            obtain ⟨sf, hsf⟩ : ∃ s, subE n2 100 Tq (⟨y.id, i1, i2, i3⟩ :: L) q = s := ⟨_, rfl⟩
            have HSE := Lib.hid hsf
            clear hsf
            go_wp2_with fail
            by_cases hse0 : sf = 0
            · subst hse0
              have hne : ((q.id : Int) == (y.id : Int)) = false := by
                rw [beq_eq_false_iff_ne]
                intro e
                have h1 := sub_zeroA HSE.out
                rw [e] at h1
                exact absurd (hasA_self ⟨y.id, i1, i2, i3⟩ L) (by rw [show (⟨y.id, i1, i2, i3⟩ : AX).id = y.id from rfl, h1]; decide)
              refine wp_region_held_drew (S := (fun w' => w'.cell? ⟨g, o + i * 4 + 1, none⟩ = some (.int .i64 q.id) ∧ w'.cell? ⟨g, o + i * 4 + 2, none⟩ = some (.int .i64 q.base) ∧ w'.cell? ⟨g, o + i * 4 + 3, none⟩ = some (.slice q.A q.l.length q.c) ∧ w'.cell? ⟨b12, 1, none⟩ = some (.int .i64 y.id))) (by kernel_rfl) ⟨c1, c2, c3, y1⟩ (fun hHeld => ?_)
              refine wpAnyH_take (i := 0) (v := ?vbtwp0) rfl (by kernel_rfl) (by kernel_rfl) (by kernel_rfl) (fun _ _ _ h => h) (Or.inl ⟨by rfl, ?ybtwp0⟩) (by assumption) ?rbtwp0
              case ybtwp0 =>
                intro w hSw
                (try dsimp only at hSw)
                go_simp
                first | done | with_reducible rfl
              try simp only [Act.put, List.getElem_toArray, List.getElem_cons_zero, List.setIfInBounds_toArray, List.set_cons_zero, List.set_cons_succ]
              refine wpAnyH_take (i := 1) (v := ?vbtwp1) rfl (by kernel_rfl) (by kernel_rfl) (by kernel_rfl) (fun _ _ _ h => h) (Or.inl ⟨by rfl, ?ybtwp1⟩) (by assumption) ?rbtwp1
              case ybtwp1 =>
                intro w hSw
                (try dsimp only at hSw)
                go_simp
                first | done | with_reducible rfl
              try simp only [Act.put, List.getElem_toArray, List.getElem_cons_zero, List.getElem_cons_succ, List.setIfInBounds_toArray, List.set_cons_zero, List.set_cons_succ]
              refine wpAnyH_take (i := 2) (v := ?vbtwp2) rfl (by kernel_rfl) (by kernel_rfl) (by kernel_rfl) (fun _ _ _ h => h) (Or.inl ⟨by rfl, ?ybtwp2⟩) (by assumption) ?rbtwp2
              case ybtwp2 =>
                intro w hSw
                (try dsimp only at hSw)
                go_simp
                first | done | with_reducible rfl
              try simp only [Act.put, List.getElem_toArray, List.getElem_cons_zero, List.getElem_cons_succ, List.setIfInBounds_toArray, List.set_cons_zero, List.set_cons_succ]
              refine wpAnyH_take (i := 3) (v := ?vbtwp3) rfl (by kernel_rfl) (by kernel_rfl) (by kernel_rfl) (fun _ _ _ h => h) (Or.inl ⟨by rfl, ?ybtwp3⟩) (by assumption) ?rbtwp3
              case ybtwp3 =>
                intro w hSw
                (try dsimp only at hSw)
                go_simp
                first | done | with_reducible rfl
              try simp only [Act.put, List.getElem_toArray, List.getElem_cons_zero, List.getElem_cons_succ, List.setIfInBounds_toArray, List.set_cons_zero, List.set_cons_succ]
              refine wpAnyH_take (i := 4) (v := ?vbtwp4) rfl (by kernel_rfl) (by kernel_rfl) (by kernel_rfl) (fun _ _ _ h => h) (Or.inl ⟨by rfl, ?ybtwp4⟩) (by assumption) ?rbtwp4
              case ybtwp4 =>
                intro w hSw
                (try dsimp only at hSw)
                go_simp
                first | done | with_reducible rfl
              try simp only [Act.put, List.getElem_toArray, List.getElem_cons_zero, List.getElem_cons_succ, List.setIfInBounds_toArray, List.set_cons_zero, List.set_cons_succ]
              refine wpAnyH_take (i := 5) (v := ?vbtwp5) rfl (by kernel_rfl) (by kernel_rfl) (by kernel_rfl) (fun _ _ _ h => h) (Or.inl ⟨by rfl, ?ybtwp5⟩) (by assumption) ?rbtwp5
              case ybtwp5 =>
                intro w hSw
                (try dsimp only at hSw)
                go_simp
                first | done | with_reducible rfl
              try simp only [Act.put, List.getElem_toArray, List.getElem_cons_zero, List.getElem_cons_succ, List.setIfInBounds_toArray, List.set_cons_zero, List.set_cons_succ]
              refine wpAnyH_ready (rs := [6]) (by kernel_rfl) (by simp) ?_
              refine AllReadyH.cons rfl (fun K hK => ?_) AllReadyH.nil
              go_simp
              refine HSUB.out.mono ?_
              rintro e w7 ⟨rfl, hp7⟩
              rw [HSE.out] at hp7 ⊢
              rcases hp7 with ⟨h, _⟩ | ⟨_, v7, z, hq7, ⟨hz1, hz2, hz3⟩, ht7, hv7⟩
              · exact absurd rfl h
              have hb7 : Below w.heap.size w w7 := HI24.out.bel.trans (ht7.below (n := w.heap.size) (fun j e => by
                rcases e with rfl | e
                · exact HI24.out.q.lq
                · exact (HI24.out.q.waits.far e).1) HI24.out.bel.size)
              have t7 : TolB w7 b12 0 ⟨y.id, i1, i2, i3⟩ true := (ht7.block b12 (Array.getElem?_eq_some_iff.1 T24.out).1 (fun e => by
                have h := T24.out
                unfold TolB at h
                rcases e with e | e
                · rw [e, HI24.out.q.heap] at h; cases h
                · obtain ⟨_, cur2, hy⟩ := HI24.out.q.waits.far e
                  rw [hy] at h; cases h)).trans T24.out
              have HQ7 := Lib.hid hq7
              have HT7 := Lib.hid ht7
              have HZ1 := Lib.hid hz1
              obtain ⟨_, c1, c2, c3⟩ := HC.out w7 hb7
              have hHeld := (show _ ∧ _ ∧ _ ∧ _ from ⟨c1, c2, c3, t7.facts.2.1⟩)
              have HB7 := Lib.hid hb7
              clear hq7 hz1 hz2 hz3 ht7 hv7 hb7 t7 c1 c2 c3
              refine hK.out _ _ hHeld (fun hHeld => ?_)
              clear hK K
              try simp only [Act.put, List.getElem_toArray, List.getElem_cons_zero, List.getElem_cons_succ, List.setIfInBounds_toArray, List.set_cons_zero, List.set_cons_succ]
              refine wpAnyH_take (i := 7) (v := ?vbtwp7) rfl (by kernel_rfl) (by kernel_rfl) (by kernel_rfl) (fun _ _ _ h => h) (Or.inl ⟨by rfl, ?ybtwp7⟩) (by assumption) ?rbtwp7
              case ybtwp7 =>
                intro w hSw
                (try dsimp only at hSw)
                go_simp
                first | done | with_reducible rfl
              try simp only [Act.put, List.getElem_toArray, List.getElem_cons_zero, List.getElem_cons_succ, List.setIfInBounds_toArray, List.set_cons_zero, List.set_cons_succ]
              refine wpAnyH_take (i := 8) (v := ?vbtwp8) rfl (by kernel_rfl) (by kernel_rfl) (by kernel_rfl) (fun _ _ _ h => h) (Or.inl ⟨by rfl, ?ybtwp8⟩) (by assumption) ?rbtwp8
              case ybtwp8 =>
                intro w hSw
                (try dsimp only at hSw)
                go_simp
                first | done | with_reducible rfl
              try simp only [Act.put, List.getElem_toArray, List.getElem_cons_zero, List.getElem_cons_succ, List.setIfInBounds_toArray, List.set_cons_zero, List.set_cons_succ]
              refine wpAnyH_take (i := 9) (v := ?vbtwp9) rfl (by kernel_rfl) (by kernel_rfl) (by kernel_rfl) (fun _ _ _ h => h) (Or.inl ⟨by rfl, ?ybtwp9⟩) (by assumption) ?rbtwp9
              case ybtwp9 =>
                intro w hSw
                (try dsimp only at hSw)
                go_simp
                first | done | with_reducible rfl
              try simp only [Act.put, List.getElem_toArray, List.getElem_cons_zero, List.getElem_cons_succ, List.setIfInBounds_toArray, List.set_cons_zero, List.set_cons_succ]
              refine wpAnyH_take (i := 10) (v := ?vbtwp10) rfl (by kernel_rfl) (by kernel_rfl) (by kernel_rfl) (fun _ _ _ h => h) (Or.inl ⟨by rfl, ?ybtwp10⟩) (by assumption) ?rbtwp10
              case ybtwp10 =>
                intro w hSw
                (try dsimp only at hSw)
                go_simp
                first | done | with_reducible rfl
              try simp only [Act.put, List.getElem_toArray, List.getElem_cons_zero, List.getElem_cons_succ, List.setIfInBounds_toArray, List.set_cons_zero, List.set_cons_succ]
              refine wpAnyH_take (i := 11) (v := ?vbtwp11) rfl (by kernel_rfl) (by kernel_rfl) (by kernel_rfl) (fun _ _ _ h => h) (Or.inl ⟨by rfl, ?ybtwp11⟩) (by assumption) ?rbtwp11
              case ybtwp11 =>
                intro w hSw
                (try dsimp only at hSw)
                go_simp
                first | done | with_reducible rfl
              try simp only [Act.put, List.getElem_toArray, List.getElem_cons_zero, List.getElem_cons_succ, List.setIfInBounds_toArray, List.set_cons_zero, List.set_cons_succ]
              refine wpAnyH_take (i := 12) (v := ?vbtwp12) rfl (by kernel_rfl) (by kernel_rfl) (by kernel_rfl) (fun _ _ _ h => h) (Or.inl ⟨by rfl, ?ybtwp12⟩) (by assumption) ?rbtwp12
              case ybtwp12 =>
                intro w hSw
                (try dsimp only at hSw)
                go_simp
                first | done | with_reducible rfl
              try simp only [Act.put, List.getElem_toArray, List.getElem_cons_zero, List.getElem_cons_succ, List.setIfInBounds_toArray, List.set_cons_zero, List.set_cons_succ]
              refine wpAnyH_take (i := 13) (v := ?vbtwp13) rfl (by kernel_rfl) (by kernel_rfl) (by kernel_rfl) (fun _ _ _ h => h) (Or.inl ⟨by rfl, ?ybtwp13⟩) (by assumption) ?rbtwp13
              case ybtwp13 =>
                intro w hSw
                (try dsimp only at hSw)
                go_simp
                first | done | with_reducible rfl
              try simp only [Act.put, List.getElem_toArray, List.getElem_cons_zero, List.getElem_cons_succ, List.setIfInBounds_toArray, List.set_cons_zero, List.set_cons_succ]
              refine wpAnyH_take (i := 14) (v := ?vbtwp14) rfl (by kernel_rfl) (by kernel_rfl) (by kernel_rfl) (fun _ _ _ h => h) (Or.inl ⟨by rfl, ?ybtwp14⟩) (by assumption) ?rbtwp14
              case ybtwp14 =>
                intro w hSw
                (try dsimp only at hSw)
                go_simp
                first | done | with_reducible rfl
              try simp only [Act.put, List.getElem_toArray, List.getElem_cons_zero, List.getElem_cons_succ, List.setIfInBounds_toArray, List.set_cons_zero, List.set_cons_succ]
              refine wpAnyH_take (i := 15) (v := ?vbtwp15) rfl (by kernel_rfl) (by kernel_rfl) (by kernel_rfl) (fun _ _ _ h => h) (Or.inl ⟨by rfl, ?ybtwp15⟩) (by assumption) ?rbtwp15
              case ybtwp15 =>
                intro w hSw
                (try dsimp only at hSw)
                go_simp
                first | done | with_reducible rfl
              try simp only [Act.put, List.getElem_toArray, List.getElem_cons_zero, List.getElem_cons_succ, List.setIfInBounds_toArray, List.set_cons_zero, List.set_cons_succ]
              refine wpAnyH_take (i := 16) (v := ?vbtwp16) rfl (by kernel_rfl) (by kernel_rfl) (by kernel_rfl) (fun _ _ _ h => h) (Or.inl ⟨by rfl, ?ybtwp16⟩) (by assumption) ?rbtwp16
              case ybtwp16 =>
                intro w hSw
                (try dsimp only at hSw)
                go_simp
                first | done | with_reducible rfl
              try simp only [Act.put, List.getElem_toArray, List.getElem_cons_zero, List.getElem_cons_succ, List.setIfInBounds_toArray, List.set_cons_zero, List.set_cons_succ]
              refine wpAnyH_take (i := 17) (v := ?vbtwp17) rfl (by kernel_rfl) (by kernel_rfl) (by kernel_rfl) (fun _ _ _ h => h) (Or.inl ⟨by rfl, ?ybtwp17⟩) (by assumption) ?rbtwp17
              case ybtwp17 =>
                intro w hSw
                (try dsimp only at hSw)
                go_simp
                first | done | with_reducible rfl
              try simp only [Act.put, List.getElem_toArray, List.getElem_cons_zero, List.getElem_cons_succ, List.setIfInBounds_toArray, List.set_cons_zero, List.set_cons_succ]
              refine wpAnyH_take (i := 18) (v := ?vbtwp18) rfl (by kernel_rfl) (by kernel_rfl) (by kernel_rfl) (fun _ _ _ h => h) (Or.inl ⟨by rfl, ?ybtwp18⟩) (by assumption) ?rbtwp18
              case ybtwp18 =>
                intro w hSw
                (try dsimp only at hSw)
                go_simp
                first | done | with_reducible rfl
              try simp only [Act.put, List.getElem_toArray, List.getElem_cons_zero, List.getElem_cons_succ, List.setIfInBounds_toArray, List.set_cons_zero, List.set_cons_succ]
              refine wpAnyH_take (i := 19) (v := ?vbtwp19) rfl (by kernel_rfl) (by kernel_rfl) (by kernel_rfl) (fun _ _ _ h => h) (Or.inl ⟨by rfl, ?ybtwp19⟩) (by assumption) ?rbtwp19
              case ybtwp19 =>
                intro w hSw
                (try dsimp only at hSw)
                go_simp
                first | done | with_reducible rfl
              try simp only [Act.put, List.getElem_toArray, List.getElem_cons_zero, List.getElem_cons_succ, List.setIfInBounds_toArray, List.set_cons_zero, List.set_cons_succ]
              refine wpAnyH_done (by kernel_rfl) ?_ _
              have HWT := Lib.hid (waits_any HQ7.out (by rw [List.length_append]; have := HI24.out.lt; simp only [List.length_singleton]; omega))
              clear y1
              go_wp2_with fail
              refine HWT.out.mono ?_
              rintro e w8 ⟨v15, rfl, hown, hb8⟩
              obtain ⟨A15, c15, hv, -, -, -⟩ := ints_slice (l := (Tq ++ [z]).map QX.id) (by rw [← idsV_ints, List.length_map]; exact hown)
              rw [List.length_map, List.length_append, List.length_singleton, HM1.out] at hv
              obtain ⟨mq, hmq⟩ : ∃ m, m1 + 1 = m := ⟨_, rfl⟩
              rw [hmq] at hv
              subst hv
              have gq : (m1 : Int) < (mq : Int) := by omega
              have HO8 := Lib.hid ((HI24.out.o.turn HI24.out.q HT7.out).below hb8)
              have HB8 := Lib.hid hb8
              have HBW8 := Lib.hid (HB7.out.trans (hb8.mono HB7.out.size))
              obtain ⟨_, c1, _, _⟩ := HC.out w8 HBW8.out
              have hbA : Below w8.heap.size w8 (w8.alloc (.cells #[.int .i64 q.id] 3)) := (Below.refl _ _).alloc (Nat.le_refl _) _
              have hszA := HBW8.out.size
              clear hown hb8 hmq HWT
              go_wp2_with (
                at_builtin
                refine wpList_appTail (base := w.heap.size) rfl _ _ rfl rfl (HO8.out.below hbA) w8.heap.size rfl (cell_of_row _ _ 0 _ _ _ (heap_alloc_new w8 _)) (by rw [List.length_map]; have := HI24.out.lt; omega) (by rw [World.size_alloc]; omega) ?_
                intro v9 w9 ho9 hg9 hl9
                have HI28 := Lib.hid (HI24.out.pushed (y := z) (v' := v7) (j := i + 1) (by have := HI24.out.lt; have := HM1.out; have := HMT.out; omega) HQ7.out HT7.out (by rw [HZ1.out]; exact HWX.out) (HB8.out.trans (hbA.mono HB8.out.size)) (by rw [HZ1.out]; exact ho9) hg9 hl9)
                clear ho9 hg9 hl9 hbA c1
                skip)
              have HWT := Lib.hid (waits_any HI28.out.q (by have := HI28.out.lt; omega))
              go_wp2_with fail
              refine HWT.out.mono ?_
              rintro e w15 ⟨v15, rfl, hown, hb15⟩
              have HSW := Lib.hid (same_waits hown (HI28.out.o.below hb15) (by have := HI28.out.lt; omega))
              have HIy := Lib.hid (HI28.out.below hb15)
              clear hown hb15 HWT
              go_wp2_with fail
              refine HSW.out.mono ?_
              rintro e w16 ⟨rfl, hb16⟩
              have HIz := Lib.hid (HIy.out.below hb16)
              clear hb16 HIy HSW
              go_wp2_with fail
              go_roundw
              case rel => exact ⟨i + 1, _, _, _, _, _, _, _, _, _, _, _, _, by go_num, by omega, HIz⟩
              case measure => simp [intOf]; omega
            · have u9q : ((sf : Int) == 0) = false := by rw [beq_eq_false_iff_ne]; exact hse0
              refine wp_region_held_drew (S := (fun w' => w'.cell? ⟨g, o + i * 4 + 1, none⟩ = some (.int .i64 q.id) ∧ w'.cell? ⟨g, o + i * 4 + 2, none⟩ = some (.int .i64 q.base) ∧ w'.cell? ⟨g, o + i * 4 + 3, none⟩ = some (.slice q.A q.l.length q.c) ∧ w'.cell? ⟨b12, 1, none⟩ = some (.int .i64 y.id))) (by kernel_rfl) ⟨c1, c2, c3, y1⟩ (fun hHeld => ?_)
              refine wpAnyH_take (i := 0) (v := ?vbtwn0) rfl (by kernel_rfl) (by kernel_rfl) (by kernel_rfl) (fun _ _ _ h => h) (Or.inl ⟨by rfl, ?ybtwn0⟩) (by assumption) ?rbtwn0
              case ybtwn0 =>
                intro w hSw
                (try dsimp only at hSw)
                go_simp
                first | done | with_reducible rfl
              try simp only [Act.put, List.getElem_toArray, List.getElem_cons_zero, List.setIfInBounds_toArray, List.set_cons_zero, List.set_cons_succ]
              refine wpAnyH_take (i := 1) (v := ?vbtwn1) rfl (by kernel_rfl) (by kernel_rfl) (by kernel_rfl) (fun _ _ _ h => h) (Or.inl ⟨by rfl, ?ybtwn1⟩) (by assumption) ?rbtwn1
              case ybtwn1 =>
                intro w hSw
                (try dsimp only at hSw)
                go_simp
                first | done | with_reducible rfl
              try simp only [Act.put, List.getElem_toArray, List.getElem_cons_zero, List.getElem_cons_succ, List.setIfInBounds_toArray, List.set_cons_zero, List.set_cons_succ]
              refine wpAnyH_take (i := 2) (v := ?vbtwn2) rfl (by kernel_rfl) (by kernel_rfl) (by kernel_rfl) (fun _ _ _ h => h) (Or.inl ⟨by rfl, ?ybtwn2⟩) (by assumption) ?rbtwn2
              case ybtwn2 =>
                intro w hSw
                (try dsimp only at hSw)
                go_simp
                first | done | with_reducible rfl
              try simp only [Act.put, List.getElem_toArray, List.getElem_cons_zero, List.getElem_cons_succ, List.setIfInBounds_toArray, List.set_cons_zero, List.set_cons_succ]
              refine wpAnyH_take (i := 3) (v := ?vbtwn3) rfl (by kernel_rfl) (by kernel_rfl) (by kernel_rfl) (fun _ _ _ h => h) (Or.inl ⟨by rfl, ?ybtwn3⟩) (by assumption) ?rbtwn3
              case ybtwn3 =>
                intro w hSw
                (try dsimp only at hSw)
                go_simp
                first | done | with_reducible rfl
              try simp only [Act.put, List.getElem_toArray, List.getElem_cons_zero, List.getElem_cons_succ, List.setIfInBounds_toArray, List.set_cons_zero, List.set_cons_succ]
              refine wpAnyH_take (i := 4) (v := ?vbtwn4) rfl (by kernel_rfl) (by kernel_rfl) (by kernel_rfl) (fun _ _ _ h => h) (Or.inl ⟨by rfl, ?ybtwn4⟩) (by assumption) ?rbtwn4
              case ybtwn4 =>
                intro w hSw
                (try dsimp only at hSw)
                go_simp
                first | done | with_reducible rfl
              try simp only [Act.put, List.getElem_toArray, List.getElem_cons_zero, List.getElem_cons_succ, List.setIfInBounds_toArray, List.set_cons_zero, List.set_cons_succ]
              refine wpAnyH_take (i := 5) (v := ?vbtwn5) rfl (by kernel_rfl) (by kernel_rfl) (by kernel_rfl) (fun _ _ _ h => h) (Or.inl ⟨by rfl, ?ybtwn5⟩) (by assumption) ?rbtwn5
              case ybtwn5 =>
                intro w hSw
                (try dsimp only at hSw)
                go_simp
                first | done | with_reducible rfl
              try simp only [Act.put, List.getElem_toArray, List.getElem_cons_zero, List.getElem_cons_succ, List.setIfInBounds_toArray, List.set_cons_zero, List.set_cons_succ]
              refine wpAnyH_ready (rs := [6]) (by kernel_rfl) (by simp) ?_
              refine AllReadyH.cons rfl (fun K hK => ?_) AllReadyH.nil
              go_simp
              refine HSUB.out.mono ?_
              rintro e w7 ⟨rfl, hp7⟩
              rw [HSE.out] at hp7 ⊢
              have hbb7 : Below W24.heap.size W24 w7 := by
                rcases hp7 with ⟨_, h⟩ | ⟨h, _⟩
                · exact h
                · exact absurd h hse0
              have hb7 : Below w.heap.size w w7 := HI24.out.bel.trans (hbb7.mono HI24.out.bel.size)
              have t7 : TolB w7 b12 0 ⟨y.id, i1, i2, i3⟩ true := row_belowQ T24.out hbb7
              have HBB7 := Lib.hid hbb7
              obtain ⟨_, c1, c2, c3⟩ := HC.out w7 hb7
              have hHeld := (show _ ∧ _ ∧ _ ∧ _ from ⟨c1, c2, c3, t7.facts.2.1⟩)
              have HB7 := Lib.hid hb7
              clear hbb7 hb7 t7 hp7 c1 c2 c3
              refine hK.out _ _ hHeld (fun hHeld => ?_)
              clear hK K
              try simp only [Act.put, List.getElem_toArray, List.getElem_cons_zero, List.getElem_cons_succ, List.setIfInBounds_toArray, List.set_cons_zero, List.set_cons_succ]
              refine wpAnyH_take (i := 7) (v := ?vbtwn7) rfl (by kernel_rfl) (by kernel_rfl) (by kernel_rfl) (fun _ _ _ h => h) (Or.inl ⟨by rfl, ?ybtwn7⟩) (by assumption) ?rbtwn7
              case ybtwn7 =>
                intro w hSw
                (try dsimp only at hSw)
                go_simp
                first | done | with_reducible rfl
              try simp only [Act.put, List.getElem_toArray, List.getElem_cons_zero, List.getElem_cons_succ, List.setIfInBounds_toArray, List.set_cons_zero, List.set_cons_succ]
              refine wpAnyH_take (i := 8) (v := ?vbtwn8) rfl (by kernel_rfl) (by kernel_rfl) (by kernel_rfl) (fun _ _ _ h => h) (Or.inl ⟨by rfl, ?ybtwn8⟩) (by assumption) ?rbtwn8
              case ybtwn8 =>
                intro w hSw
                (try dsimp only at hSw)
                go_simp
                first | done | with_reducible rfl
              try simp only [Act.put, List.getElem_toArray, List.getElem_cons_zero, List.getElem_cons_succ, List.setIfInBounds_toArray, List.set_cons_zero, List.set_cons_succ]
              refine wpAnyH_take (i := 9) (v := undef) rfl (by kernel_rfl) (by kernel_rfl) (by kernel_rfl) (fun _ _ _ h => h) (Or.inr ⟨by rfl, rfl⟩) (by assumption) ?rbtwn9
              try simp only [Act.put, List.getElem_toArray, List.getElem_cons_zero, List.getElem_cons_succ, List.setIfInBounds_toArray, List.set_cons_zero, List.set_cons_succ]
              refine wpAnyH_take (i := 10) (v := undef) rfl (by kernel_rfl) (by kernel_rfl) (by kernel_rfl) (fun _ _ _ h => h) (Or.inr ⟨by rfl, rfl⟩) (by assumption) ?rbtwn10
              try simp only [Act.put, List.getElem_toArray, List.getElem_cons_zero, List.getElem_cons_succ, List.setIfInBounds_toArray, List.set_cons_zero, List.set_cons_succ]
              refine wpAnyH_take (i := 11) (v := undef) rfl (by kernel_rfl) (by kernel_rfl) (by kernel_rfl) (fun _ _ _ h => h) (Or.inr ⟨by rfl, rfl⟩) (by assumption) ?rbtwn11
              try simp only [Act.put, List.getElem_toArray, List.getElem_cons_zero, List.getElem_cons_succ, List.setIfInBounds_toArray, List.set_cons_zero, List.set_cons_succ]
              refine wpAnyH_take (i := 12) (v := undef) rfl (by kernel_rfl) (by kernel_rfl) (by kernel_rfl) (fun _ _ _ h => h) (Or.inr ⟨by rfl, rfl⟩) (by assumption) ?rbtwn12
              try simp only [Act.put, List.getElem_toArray, List.getElem_cons_zero, List.getElem_cons_succ, List.setIfInBounds_toArray, List.set_cons_zero, List.set_cons_succ]
              refine wpAnyH_take (i := 13) (v := undef) rfl (by kernel_rfl) (by kernel_rfl) (by kernel_rfl) (fun _ _ _ h => h) (Or.inr ⟨by rfl, rfl⟩) (by assumption) ?rbtwn13
              try simp only [Act.put, List.getElem_toArray, List.getElem_cons_zero, List.getElem_cons_succ, List.setIfInBounds_toArray, List.set_cons_zero, List.set_cons_succ]
              refine wpAnyH_take (i := 14) (v := undef) rfl (by kernel_rfl) (by kernel_rfl) (by kernel_rfl) (fun _ _ _ h => h) (Or.inr ⟨by rfl, rfl⟩) (by assumption) ?rbtwn14
              try simp only [Act.put, List.getElem_toArray, List.getElem_cons_zero, List.getElem_cons_succ, List.setIfInBounds_toArray, List.set_cons_zero, List.set_cons_succ]
              refine wpAnyH_take (i := 15) (v := undef) rfl (by kernel_rfl) (by kernel_rfl) (by kernel_rfl) (fun _ _ _ h => h) (Or.inr ⟨by rfl, rfl⟩) (by assumption) ?rbtwn15
              try simp only [Act.put, List.getElem_toArray, List.getElem_cons_zero, List.getElem_cons_succ, List.setIfInBounds_toArray, List.set_cons_zero, List.set_cons_succ]
              refine wpAnyH_take (i := 16) (v := undef) rfl (by kernel_rfl) (by kernel_rfl) (by kernel_rfl) (fun _ _ _ h => h) (Or.inr ⟨by rfl, rfl⟩) (by assumption) ?rbtwn16
              try simp only [Act.put, List.getElem_toArray, List.getElem_cons_zero, List.getElem_cons_succ, List.setIfInBounds_toArray, List.set_cons_zero, List.set_cons_succ]
              refine wpAnyH_take (i := 17) (v := undef) rfl (by kernel_rfl) (by kernel_rfl) (by kernel_rfl) (fun _ _ _ h => h) (Or.inr ⟨by rfl, rfl⟩) (by assumption) ?rbtwn17
              try simp only [Act.put, List.getElem_toArray, List.getElem_cons_zero, List.getElem_cons_succ, List.setIfInBounds_toArray, List.set_cons_zero, List.set_cons_succ]
              refine wpAnyH_take (i := 18) (v := undef) rfl (by kernel_rfl) (by kernel_rfl) (by kernel_rfl) (fun _ _ _ h => h) (Or.inr ⟨by rfl, rfl⟩) (by assumption) ?rbtwn18
              try simp only [Act.put, List.getElem_toArray, List.getElem_cons_zero, List.getElem_cons_succ, List.setIfInBounds_toArray, List.set_cons_zero, List.set_cons_succ]
              refine wpAnyH_take (i := 19) (v := ?vbtwn19) rfl (by kernel_rfl) (by kernel_rfl) (by kernel_rfl) (fun _ _ _ h => h) (Or.inl ⟨by rfl, ?ybtwn19⟩) (by assumption) ?rbtwn19
              case ybtwn19 =>
                intro w hSw
                (try dsimp only at hSw)
                go_simp
                first | done | with_reducible rfl
              try simp only [Act.put, List.getElem_toArray, List.getElem_cons_zero, List.getElem_cons_succ, List.setIfInBounds_toArray, List.set_cons_zero, List.set_cons_succ]
              refine wpAnyH_done (by kernel_rfl) ?_ _
              have HI25 := Lib.hid (HI24.out.below HBB7.out)
              have HWT := Lib.hid (waits_any HI25.out.q (by have := HI25.out.lt; omega))
              clear y1
              go_wp2_with fail
              refine HWT.out.mono ?_
              rintro e w8 ⟨v15, rfl, hown, hb8⟩
              obtain ⟨A15, c15, hv, -, -, -⟩ := ints_slice (l := Tq.map QX.id) (by rw [← idsV_ints, List.length_map]; exact hown)
              rw [List.length_map, HM1.out] at hv
              subst hv
              have gq : ¬ (m1 : Int) < (m1 : Int) := by omega
              have HI28 := Lib.hid (HI25.out.below hb8)
              clear hown hb8 HWT
              have HWT := Lib.hid (waits_any HI28.out.q (by have := HI28.out.lt; omega))
              go_wp2_with fail
              refine HWT.out.mono ?_
              rintro e w15 ⟨v15, rfl, hown, hb15⟩
              have HSW := Lib.hid (same_waits hown (HI28.out.o.below hb15) (by have := HI28.out.lt; omega))
              have HIy := Lib.hid (HI28.out.below hb15)
              clear hown hb15 HWT
              go_wp2_with fail
              refine HSW.out.mono ?_
              rintro e w16 ⟨rfl, hb16⟩
              have HIz := Lib.hid (HIy.out.below hb16)
              clear hb16 HIy HSW
              go_wp2_with fail
              go_roundw
              case rel => exact ⟨i + 1, _, _, _, _, _, _, _, _, _, _, _, _, by go_num, by omega, HIz⟩
              case measure => simp [intOf]; omega
      by_cases e3 : xk = 3
      · subst e3
        cases Tq with
        | nil =>
          have hdid := did_none_three HI.out.q q
          unfold doV at hdid
          have HDID := Lib.hid hdid
          clear hdid
          go_wp2_with fail
          refine HHD.out.mono ?_
          rintro e wq ⟨rfl, hwq⟩
          have hwq := hwq.symm
          subst hwq
          go_wp2_with fail
          refine HDID.out.mono ?_
          rintro e w4 ⟨rfl, hb4⟩
          simp only [told, noA]
          have HI4 := Lib.hid (HI.out.below hb4)
          clear hb4
          obtain ⟨b12, hb12⟩ : ∃ b, w4.heap.size = b := ⟨_, rfl⟩
          obtain ⟨W12, hW12⟩ : ∃ W, w4.alloc (.cells #[.int .i64 0, .int .i64 0, .int .i64 0, .int .i64 0, .int .i64 0, .bool false] 38) = W := ⟨_, rfl⟩
          have a12 : TolB W12 b12 0 noA false := by unfold TolB; rw [← hW12, ← hb12]; exact heap_alloc_new _ _
          have hbl12 : Below w4.heap.size w4 W12 := by rw [← hW12]; exact (Below.refl _ _).alloc (Nat.le_refl _) _
          obtain ⟨t12, g12⟩ := a12.all 0 0 0 0 0 false
          obtain ⟨V12, hV12⟩ : ∃ W, (((((W12.setCell ⟨b12, 0, none⟩ (.int .i64 0)).setCell ⟨b12, 1, none⟩ (.int .i64 0)).setCell ⟨b12, 2, none⟩ (.int .i64 0)).setCell ⟨b12, 3, none⟩ (.int .i64 0)).setCell ⟨b12, 4, none⟩ (.int .i64 0)).setCell ⟨b12, 5, none⟩ (.bool false) = W := ⟨_, rfl⟩
          rw [hV12] at t12 g12
          have hbm12 : Below w4.heap.size w4 V12 := hbl12.grown g12 hbl12.size (fun j e => by cases e; omega)
          obtain ⟨z0, z1, z2, z3, z4, z5⟩ := a12.facts
          obtain ⟨f0, f1, f2, f3, f4, f5⟩ := a12.free
          simp only [noA] at z0 z1 z2 z3 z4
          have HV12 := Lib.hid hV12
          have T12 := Lib.hid t12
          have HBM12 := Lib.hid hbm12
          clear a12 hbl12 t12 g12 hV12 hbm12
          clear c0 c1 c2 c3
          go_upto_region 14 with fail
          rw [HV12.out]
          clear z0 z1 z2 z3 z4 z5 f0 f1 f2 f3 f4 f5 hW12 hb12
          obtain ⟨y0, y1, y2, y3, y4, y5⟩ := T12.out.facts
          simp only [] at y0 y1 y2 y3 y4 y5
          have HI12 := Lib.hid ((HI4.out.below HBM12.out).next)
          obtain ⟨c0, c1, c2, c3⟩ := HC.out V12 HI12.out.bel
          have HWT := Lib.hid (waits_any HI12.out.q (by have := HI12.out.lt; omega))
          go_wp2_with fail
          refine HWT.out.mono ?_
          rintro e w15 ⟨v15, rfl, hown, hb15⟩
          have HSW := Lib.hid (same_waits hown (HI12.out.o.below hb15) (by have := HI12.out.lt; omega))
          have HIy := Lib.hid (HI12.out.below hb15)
          clear hown hb15 HWT
          go_wp2_with fail
          refine HSW.out.mono ?_
          rintro e w16 ⟨rfl, hb16⟩
          have HIz := Lib.hid (HIy.out.below hb16)
          clear hb16 HIy HSW
          go_wp2_with fail
          go_roundw
          case rel => exact ⟨i + 1, _, _, _, _, _, _, _, _, _, _, _, _, by go_num, by omega, HIz⟩
          case measure => simp [intOf]; omega
        | cons y Tq =>
          have hlc : (y :: Tq).length = Tq.length + 1 := rfl
          rw [hlc] at hlt4
          clear hlc
          have hdid := did_step_three w HI.out.q HI.out.h HNE.out HI.out.bel (by omega) (by omega) (by omega) HM.out (key_wf (HI.out.ids y (by simp))) q
          unfold doV at hdid
          have HDID := Lib.hid hdid
          clear hdid
          obtain ⟨mt, hmt⟩ : ∃ m, Tq.length + 1 = m := ⟨_, rfl⟩
          obtain ⟨go, oo, co, hvo⟩ : ∃ go oo co, u8 = .slice (some ⟨go, oo, none⟩) mt co := by
            rcases HI.out.o with ⟨_, h⟩ | ⟨go, oo, co, _, h, _⟩
            · cases h
            · exact ⟨go, oo, co, by rw [h, ← hmt]; simp⟩
          subst hvo
          have HMT := Lib.hid hmt
          clear hmt
          go_wp2_with fail
          refine HHD.out.mono ?_
          rintro e wq ⟨rfl, hwq⟩
          have hwq := hwq.symm
          subst hwq
          go_wp2_with fail
          refine HDID.out.mono ?_
          rintro e w4 ⟨a, v4, rfl, hq4, hst4, hbw4, hf4, hv4⟩
          obtain ⟨i0, i1, i2, i3⟩ := a
          have hid := hst4.id
          simp only at hid
          subst hid
          simp only [told]
          obtain ⟨n2, hlb0, nm2, M2, nv2, cv2, k2, D2, H2, hH2⟩ : ∃ (n2 : Nat), (i1 ≠ 1 ∧ n2 = n) ∧ ∃ nm M nv cv k D H, HistAt w.heap.size w4 hb n2 nm M nv cv mb k D H := by
            rcases hst4 with ⟨⟨_, h⟩ | ⟨_, _, h⟩ | ⟨_, h', _⟩, nv', cv', k', D', hh⟩ | ⟨_, h', _⟩
            · cases h
              exact ⟨n, ⟨by decide, rfl⟩, _, _, _, _, _, _, _, hh⟩
            · cases h
              exact ⟨n, ⟨by decide, rfl⟩, _, _, _, _, _, _, _, hh⟩
            · cases h'
            · cases h'
          obtain ⟨r1, hr1⟩ : ∃ r : Int, ((n + 1 : Nat) : Int) = r := ⟨_, rfl⟩
          have HQ4 := Lib.hid hq4
          have HO4 := Lib.hid (HI.out.o.frame HI.out.q hf4)
          have HR4 := Lib.hid (HI.out.r.frame HI.out.q hf4)
          have HH4 := Lib.hid hH2
          have HB4 := Lib.hid (HI.out.bel.trans hbw4)
          have HR1 := Lib.hid hr1
          have HLB0 := Lib.hid hlb0
          clear hq4 hst4 hbw4 hf4 hv4 hlb0 hH2 hr1
          obtain ⟨b12, hb12⟩ : ∃ b, w4.heap.size = b := ⟨_, rfl⟩
          obtain ⟨W12, hW12⟩ : ∃ W, w4.alloc (.cells #[.int .i64 0, .int .i64 0, .int .i64 0, .int .i64 0, .int .i64 0, .bool false] 38) = W := ⟨_, rfl⟩
          have a12 : TolB W12 b12 0 noA false := by unfold TolB; rw [← hW12, ← hb12]; exact heap_alloc_new _ _
          have hbl12 : Below w4.heap.size w4 W12 := by rw [← hW12]; exact (Below.refl _ _).alloc (Nat.le_refl _) _
          obtain ⟨t12, g12⟩ := a12.all 0 y.id i1 i2 i3 true
          obtain ⟨V12, hV12⟩ : ∃ W, (((((W12.setCell ⟨b12, 0, none⟩ (.int .i64 0)).setCell ⟨b12, 1, none⟩ (.int .i64 y.id)).setCell ⟨b12, 2, none⟩ (.int .i64 i1)).setCell ⟨b12, 3, none⟩ (.int .i64 i2)).setCell ⟨b12, 4, none⟩ (.int .i64 i3)).setCell ⟨b12, 5, none⟩ (.bool true) = W := ⟨_, rfl⟩
          rw [hV12] at t12 g12
          have hbm12 : Below w4.heap.size w4 V12 := hbl12.grown g12 hbl12.size (fun j e => by cases e; omega)
          obtain ⟨z0, z1, z2, z3, z4, z5⟩ := a12.facts
          obtain ⟨f0, f1, f2, f3, f4, f5⟩ := a12.free
          simp only [noA] at z0 z1 z2 z3 z4
          have HV12 := Lib.hid hV12
          have T12 := Lib.hid t12
          have HBM12 := Lib.hid hbm12
          clear a12 hbl12 t12 g12 hV12 hbm12
          clear c0 c1 c2 c3
          go_upto_region 14 with fail
          rw [HV12.out]
          clear z0 z1 z2 z3 z4 z5 f0 f1 f2 f3 f4 f5 hW12 hb12
          obtain ⟨y0, y1, y2, y3, y4, y5⟩ := T12.out.facts
          simp only [] at y0 y1 y2 y3 y4 y5
          have HQ12 := Lib.hid (HQ4.out.below HBM12.out)
          have HO12 := Lib.hid (HO4.out.below HBM12.out)
          have HR12 := Lib.hid (HR4.out.below HBM12.out)
          have HH12 := Lib.hid (HH4.out.below HBM12.out)
          have HB12 := Lib.hid (HB4.out.trans (HBM12.out.mono HB4.out.size))
          have HHD12 := Lib.hid (fun (q : Nat) => (HH12.out.below (belowQn (Below.refl _ _) q)).headQ)
          obtain ⟨c0, c1, c2, c3⟩ := HC.out V12 HB12.out
          clear HQ4 HO4 HR4 HH4 HB4 HBM12
          go_wp2_with fail
          have x0 := HO12.out.first
          have wn : IntKind.i64.wrap ((n : Int) + 1) = r1 := by rw [IntWalk.i64_in _ (by omega)]; have := HR1.out; omega
          have mt0 : 0 < mt := by have := HMT.out; omega
          have mt1 : ((mt : Int) == 0) = false := by rw [beq_eq_false_iff_ne]; omega
          have mt2 : (mt == 0) = false := by rw [beq_eq_false_iff_ne]; omega
          have mt3 : (0 : Int) < (mt : Int) := by omega
          have u1 : ((y.id : Int) != (y.id : Int)) = false := by simp
          have u2 : ((r1 : Int) != (r1 : Int)) = false := by simp
          obtain ⟨h1, h3⟩ := HLB0.out
          have e0 : ((i1 : Int) == 1) = false := by rw [beq_eq_false_iff_ne]; exact h1
          have e1 : ((n2 : Int) == r1) = false := by rw [beq_eq_false_iff_ne]; have := HR1.out; omega
          have HN2 := Lib.hid h3
          clear h3 h1
          go_quiet ((go_at_call 11; exact Calls.quiet_of_same (HHD12.out _)))
          obtain ⟨W13, hW13⟩ : ∃ W, V12.drewN nq = W := ⟨_, rfl⟩
          have hb13 : Below V12.heap.size V12 W13 := by rw [← hW13]; exact belowQn (Below.refl _ _) _
          rw [hW13]
          have T13 := Lib.hid (show TolB W13 b12 0 ⟨y.id, i1, i2, i3⟩ true from row_belowQ T12.out hb13)
          obtain ⟨Aq, hAq⟩ : ∃ Aq, (if co = 1 then (some ⟨go, oo, none⟩ : Option Addr) else some ⟨go, oo + 1, none⟩) = Aq := ⟨_, rfl⟩
          obtain ⟨m1, hm1⟩ : ∃ m, mt - 1 = m := ⟨_, rfl⟩
          obtain ⟨co1, hco1⟩ : ∃ m, co - 1 = m := ⟨_, rfl⟩
          have hmm : Tq.length = m1 := by have := HMT.out; omega
          have ho13 := (HO12.out.below hb13).cut
          rw [hAq, hco1, show (List.map QX.id Tq).length = m1 by rw [List.length_map]; exact hmm] at ho13
          have HM1 := Lib.hid hmm
          have htb : tailB (.slice Aq m1 co1) = some go := by
            rw [← hAq]
            split <;> rfl
          have hcap : co ≥ 1 := by
            rcases HO12.out with ⟨h, _⟩ | ⟨_, _, _, _, e, _, _, _, h4, _⟩
            · cases h
            · cases e
              rw [List.length_map] at h4
              exact Nat.le_trans (by simp) h4
          have HO13 := Lib.hid (show IntsT w.heap.size W13 (.slice Aq m1 co1) (Tq.map QX.id) from ho13)
          have HR13 := Lib.hid (HR12.out.below hb13)
          have HQ13 := Lib.hid (HQ12.out.below hb13)
          have HH13 := Lib.hid (HH12.out.below hb13)
          have HB13 := Lib.hid (HB12.out.trans (hb13.mono HB12.out.size))
          have HTB := Lib.hid htb
          have HAP := Lib.hid (show tailB u9 ≠ some go from HI.out.ap go rfl)
          clear x0 wn mt1 mt2 u1 u2 e1 c0 c1 c2 c3 y0 y1 y2 y3 y4 y5 hW13 hb13 ho13 hmm htb
          obtain ⟨y0, y1, y2, y3, y4, y5⟩ := T13.out.facts
          simp only at y0 y1 y2 y3 y4 y5
          obtain ⟨Wq, hWq⟩ : ∃ W, W13 = W := ⟨_, rfl⟩
          subst hWq
          have HIq := Lib.hid (show OnceI w W13 qb hb ab mb (.slice Aq m1 co1) u9 (i + 1) n2 Tq (⟨y.id, i1, i2, i3⟩ :: L) v4 nm2 M2 nv2 cv2 k2 D2 H2 rv from
            ⟨HQ13.out, HH13.out, HO13.out, HR13.out, HI.out.ris, fun x hx => by have := HI.out.top x hx; have := HN2.out; omega, fun j e e2 => by rw [HTB.out] at e; cases e; exact HAP.out e2, fun x hx => HI.out.ids x (by simp [hx]), by have := HI.out.lt; have := HN2.out; have := HM1.out; have := HMT.out; simp only [List.length_cons] at *; omega, HB13.out⟩)
          have TQ := T13
          go_wp2_with fail
          clear y0 y1 y2 y3 y4 y5 hAq hm1 hco1
          obtain ⟨_, c1, c2, c3⟩ := HC.out W13 HIq.out.bel
          have y1 := TQ.out.facts.2.1
          simp only at y1
          obtain ⟨W24, hW24⟩ : ∃ W, W13.drew = W := ⟨_, rfl⟩
          have hb24 : Below W13.heap.size W13 W24 := by rw [← hW24]; exact (Below.refl _ _).drew
          have HI24 := Lib.hid (HIq.out.below hb24)
          have T24 := Lib.hid (show TolB W24 b12 0 ⟨y.id, i1, i2, i3⟩ true from row_belowQ TQ.out hb24)
          have hsub := submit_any HI24.out.q HI24.out.h q HI24.out.bel.size (HDX.out.below HI24.out.bel) HSX.out (by have := HI24.out.lt; omega) (key_wf HWX.out)
          unfold QX.v at hsub
          have HSUB := Lib.hid hsub
          clear hsub hb24
          obtain ⟨sf, hsf⟩ : ∃ s, subE n2 100 Tq (⟨y.id, i1, i2, i3⟩ :: L) q = s := ⟨_, rfl⟩
          have HSE := Lib.hid hsf
          clear hsf
          go_wp2_with fail
          by_cases hse0 : sf = 0
          · subst hse0
            have hne : ((q.id : Int) == (y.id : Int)) = false := by
              rw [beq_eq_false_iff_ne]
              intro e
              have h1 := sub_zeroA HSE.out
              rw [e] at h1
              exact absurd (hasA_self ⟨y.id, i1, i2, i3⟩ L) (by rw [show (⟨y.id, i1, i2, i3⟩ : AX).id = y.id from rfl, h1]; decide)
            refine wp_region_held_drew (S := (fun w' => w'.cell? ⟨g, o + i * 4 + 1, none⟩ = some (.int .i64 q.id) ∧ w'.cell? ⟨g, o + i * 4 + 2, none⟩ = some (.int .i64 q.base) ∧ w'.cell? ⟨g, o + i * 4 + 3, none⟩ = some (.slice q.A q.l.length q.c) ∧ w'.cell? ⟨b12, 1, none⟩ = some (.int .i64 y.id))) (by kernel_rfl) ⟨c1, c2, c3, y1⟩ (fun hHeld => ?_)
            refine wpAnyH_take (i := 0) (v := ?vbthp0) rfl (by kernel_rfl) (by kernel_rfl) (by kernel_rfl) (fun _ _ _ h => h) (Or.inl ⟨by rfl, ?ybthp0⟩) (by assumption) ?rbthp0
            case ybthp0 =>
              intro w hSw
              (try dsimp only at hSw)
              go_simp
              first | done | with_reducible rfl
            try simp only [Act.put, List.getElem_toArray, List.getElem_cons_zero, List.setIfInBounds_toArray, List.set_cons_zero, List.set_cons_succ]
            refine wpAnyH_take (i := 1) (v := ?vbthp1) rfl (by kernel_rfl) (by kernel_rfl) (by kernel_rfl) (fun _ _ _ h => h) (Or.inl ⟨by rfl, ?ybthp1⟩) (by assumption) ?rbthp1
            case ybthp1 =>
              intro w hSw
              (try dsimp only at hSw)
              go_simp
              first | done | with_reducible rfl
            try simp only [Act.put, List.getElem_toArray, List.getElem_cons_zero, List.getElem_cons_succ, List.setIfInBounds_toArray, List.set_cons_zero, List.set_cons_succ]
            refine wpAnyH_take (i := 2) (v := ?vbthp2) rfl (by kernel_rfl) (by kernel_rfl) (by kernel_rfl) (fun _ _ _ h => h) (Or.inl ⟨by rfl, ?ybthp2⟩) (by assumption) ?rbthp2
            case ybthp2 =>
              intro w hSw
              (try dsimp only at hSw)
              go_simp
              first | done | with_reducible rfl
            try simp only [Act.put, List.getElem_toArray, List.getElem_cons_zero, List.getElem_cons_succ, List.setIfInBounds_toArray, List.set_cons_zero, List.set_cons_succ]
            refine wpAnyH_take (i := 3) (v := ?vbthp3) rfl (by kernel_rfl) (by kernel_rfl) (by kernel_rfl) (fun _ _ _ h => h) (Or.inl ⟨by rfl, ?ybthp3⟩) (by assumption) ?rbthp3
            case ybthp3 =>
              intro w hSw
              (try dsimp only at hSw)
              go_simp
              first | done | with_reducible rfl
            try simp only [Act.put, List.getElem_toArray, List.getElem_cons_zero, List.getElem_cons_succ, List.setIfInBounds_toArray, List.set_cons_zero, List.set_cons_succ]
            refine wpAnyH_take (i := 4) (v := ?vbthp4) rfl (by kernel_rfl) (by kernel_rfl) (by kernel_rfl) (fun _ _ _ h => h) (Or.inl ⟨by rfl, ?ybthp4⟩) (by assumption) ?rbthp4
            case ybthp4 =>
              intro w hSw
              (try dsimp only at hSw)
              go_simp
              first | done | with_reducible rfl
            try simp only [Act.put, List.getElem_toArray, List.getElem_cons_zero, List.getElem_cons_succ, List.setIfInBounds_toArray, List.set_cons_zero, List.set_cons_succ]
            refine wpAnyH_take (i := 5) (v := ?vbthp5) rfl (by kernel_rfl) (by kernel_rfl) (by kernel_rfl) (fun _ _ _ h => h) (Or.inl ⟨by rfl, ?ybthp5⟩) (by assumption) ?rbthp5
            case ybthp5 =>
              intro w hSw
              (try dsimp only at hSw)
              go_simp
              first | done | with_reducible rfl
            try simp only [Act.put, List.getElem_toArray, List.getElem_cons_zero, List.getElem_cons_succ, List.setIfInBounds_toArray, List.set_cons_zero, List.set_cons_succ]
            refine wpAnyH_ready (rs := [6]) (by kernel_rfl) (by simp) ?_
            refine AllReadyH.cons rfl (fun K hK => ?_) AllReadyH.nil
            go_simp
            refine HSUB.out.mono ?_
            rintro e w7 ⟨rfl, hp7⟩
            rw [HSE.out] at hp7 ⊢
            rcases hp7 with ⟨h, _⟩ | ⟨_, v7, z, hq7, ⟨hz1, hz2, hz3⟩, ht7, hv7⟩
            · exact absurd rfl h
            have hb7 : Below w.heap.size w w7 := HI24.out.bel.trans (ht7.below (n := w.heap.size) (fun j e => by
              rcases e with rfl | e
              · exact HI24.out.q.lq
              · exact (HI24.out.q.waits.far e).1) HI24.out.bel.size)
            have t7 : TolB w7 b12 0 ⟨y.id, i1, i2, i3⟩ true := (ht7.block b12 (Array.getElem?_eq_some_iff.1 T24.out).1 (fun e => by
              have h := T24.out
              unfold TolB at h
              rcases e with e | e
              · rw [e, HI24.out.q.heap] at h; cases h
              · obtain ⟨_, cur2, hy⟩ := HI24.out.q.waits.far e
                rw [hy] at h; cases h)).trans T24.out
            have HQ7 := Lib.hid hq7
            have HT7 := Lib.hid ht7
            have HZ1 := Lib.hid hz1
            obtain ⟨_, c1, c2, c3⟩ := HC.out w7 hb7
            have hHeld := (show _ ∧ _ ∧ _ ∧ _ from ⟨c1, c2, c3, t7.facts.2.1⟩)
            have HB7 := Lib.hid hb7
            clear hq7 hz1 hz2 hz3 ht7 hv7 hb7 t7 c1 c2 c3
            refine hK.out _ _ hHeld (fun hHeld => ?_)
            clear hK K
            try simp only [Act.put, List.getElem_toArray, List.getElem_cons_zero, List.getElem_cons_succ, List.setIfInBounds_toArray, List.set_cons_zero, List.set_cons_succ]
            refine wpAnyH_take (i := 7) (v := ?vbthp7) rfl (by kernel_rfl) (by kernel_rfl) (by kernel_rfl) (fun _ _ _ h => h) (Or.inl ⟨by rfl, ?ybthp7⟩) (by assumption) ?rbthp7
            case ybthp7 =>
              intro w hSw
              (try dsimp only at hSw)
              go_simp
              first | done | with_reducible rfl
            try simp only [Act.put, List.getElem_toArray, List.getElem_cons_zero, List.getElem_cons_succ, List.setIfInBounds_toArray, List.set_cons_zero, List.set_cons_succ]
            refine wpAnyH_take (i := 8) (v := ?vbthp8) rfl (by kernel_rfl) (by kernel_rfl) (by kernel_rfl) (fun _ _ _ h => h) (Or.inl ⟨by rfl, ?ybthp8⟩) (by assumption) ?rbthp8
            case ybthp8 =>
              intro w hSw
              (try dsimp only at hSw)
              go_simp
              first | done | with_reducible rfl
            try simp only [Act.put, List.getElem_toArray, List.getElem_cons_zero, List.getElem_cons_succ, List.setIfInBounds_toArray, List.set_cons_zero, List.set_cons_succ]
            refine wpAnyH_take (i := 9) (v := ?vbthp9) rfl (by kernel_rfl) (by kernel_rfl) (by kernel_rfl) (fun _ _ _ h => h) (Or.inl ⟨by rfl, ?ybthp9⟩) (by assumption) ?rbthp9
            case ybthp9 =>
              intro w hSw
              (try dsimp only at hSw)
              go_simp
              first | done | with_reducible rfl
            try simp only [Act.put, List.getElem_toArray, List.getElem_cons_zero, List.getElem_cons_succ, List.setIfInBounds_toArray, List.set_cons_zero, List.set_cons_succ]
            refine wpAnyH_take (i := 10) (v := ?vbthp10) rfl (by kernel_rfl) (by kernel_rfl) (by kernel_rfl) (fun _ _ _ h => h) (Or.inl ⟨by rfl, ?ybthp10⟩) (by assumption) ?rbthp10
            case ybthp10 =>
              intro w hSw
              (try dsimp only at hSw)
              go_simp
              first | done | with_reducible rfl
            try simp only [Act.put, List.getElem_toArray, List.getElem_cons_zero, List.getElem_cons_succ, List.setIfInBounds_toArray, List.set_cons_zero, List.set_cons_succ]
            refine wpAnyH_take (i := 11) (v := ?vbthp11) rfl (by kernel_rfl) (by kernel_rfl) (by kernel_rfl) (fun _ _ _ h => h) (Or.inl ⟨by rfl, ?ybthp11⟩) (by assumption) ?rbthp11
            case ybthp11 =>
              intro w hSw
              (try dsimp only at hSw)
              go_simp
              first | done | with_reducible rfl
            try simp only [Act.put, List.getElem_toArray, List.getElem_cons_zero, List.getElem_cons_succ, List.setIfInBounds_toArray, List.set_cons_zero, List.set_cons_succ]
            refine wpAnyH_take (i := 12) (v := ?vbthp12) rfl (by kernel_rfl) (by kernel_rfl) (by kernel_rfl) (fun _ _ _ h => h) (Or.inl ⟨by rfl, ?ybthp12⟩) (by assumption) ?rbthp12
            case ybthp12 =>
              intro w hSw
              (try dsimp only at hSw)
              go_simp
              first | done | with_reducible rfl
            try simp only [Act.put, List.getElem_toArray, List.getElem_cons_zero, List.getElem_cons_succ, List.setIfInBounds_toArray, List.set_cons_zero, List.set_cons_succ]
            refine wpAnyH_take (i := 13) (v := ?vbthp13) rfl (by kernel_rfl) (by kernel_rfl) (by kernel_rfl) (fun _ _ _ h => h) (Or.inl ⟨by rfl, ?ybthp13⟩) (by assumption) ?rbthp13
            case ybthp13 =>
              intro w hSw
              (try dsimp only at hSw)
              go_simp
              first | done | with_reducible rfl
            try simp only [Act.put, List.getElem_toArray, List.getElem_cons_zero, List.getElem_cons_succ, List.setIfInBounds_toArray, List.set_cons_zero, List.set_cons_succ]
            refine wpAnyH_take (i := 14) (v := ?vbthp14) rfl (by kernel_rfl) (by kernel_rfl) (by kernel_rfl) (fun _ _ _ h => h) (Or.inl ⟨by rfl, ?ybthp14⟩) (by assumption) ?rbthp14
            case ybthp14 =>
              intro w hSw
              (try dsimp only at hSw)
              go_simp
              first | done | with_reducible rfl
            try simp only [Act.put, List.getElem_toArray, List.getElem_cons_zero, List.getElem_cons_succ, List.setIfInBounds_toArray, List.set_cons_zero, List.set_cons_succ]
            refine wpAnyH_take (i := 15) (v := ?vbthp15) rfl (by kernel_rfl) (by kernel_rfl) (by kernel_rfl) (fun _ _ _ h => h) (Or.inl ⟨by rfl, ?ybthp15⟩) (by assumption) ?rbthp15
            case ybthp15 =>
              intro w hSw
              (try dsimp only at hSw)
              go_simp
              first | done | with_reducible rfl
            try simp only [Act.put, List.getElem_toArray, List.getElem_cons_zero, List.getElem_cons_succ, List.setIfInBounds_toArray, List.set_cons_zero, List.set_cons_succ]
            refine wpAnyH_take (i := 16) (v := ?vbthp16) rfl (by kernel_rfl) (by kernel_rfl) (by kernel_rfl) (fun _ _ _ h => h) (Or.inl ⟨by rfl, ?ybthp16⟩) (by assumption) ?rbthp16
            case ybthp16 =>
              intro w hSw
              (try dsimp only at hSw)
              go_simp
              first | done | with_reducible rfl
            try simp only [Act.put, List.getElem_toArray, List.getElem_cons_zero, List.getElem_cons_succ, List.setIfInBounds_toArray, List.set_cons_zero, List.set_cons_succ]
            refine wpAnyH_take (i := 17) (v := ?vbthp17) rfl (by kernel_rfl) (by kernel_rfl) (by kernel_rfl) (fun _ _ _ h => h) (Or.inl ⟨by rfl, ?ybthp17⟩) (by assumption) ?rbthp17
            case ybthp17 =>
              intro w hSw
              (try dsimp only at hSw)
              go_simp
              first | done | with_reducible rfl
            try simp only [Act.put, List.getElem_toArray, List.getElem_cons_zero, List.getElem_cons_succ, List.setIfInBounds_toArray, List.set_cons_zero, List.set_cons_succ]
            refine wpAnyH_take (i := 18) (v := ?vbthp18) rfl (by kernel_rfl) (by kernel_rfl) (by kernel_rfl) (fun _ _ _ h => h) (Or.inl ⟨by rfl, ?ybthp18⟩) (by assumption) ?rbthp18
            case ybthp18 =>
              intro w hSw
              (try dsimp only at hSw)
              go_simp
              first | done | with_reducible rfl
            try simp only [Act.put, List.getElem_toArray, List.getElem_cons_zero, List.getElem_cons_succ, List.setIfInBounds_toArray, List.set_cons_zero, List.set_cons_succ]
            refine wpAnyH_take (i := 19) (v := ?vbthp19) rfl (by kernel_rfl) (by kernel_rfl) (by kernel_rfl) (fun _ _ _ h => h) (Or.inl ⟨by rfl, ?ybthp19⟩) (by assumption) ?rbthp19
            case ybthp19 =>
              intro w hSw
              (try dsimp only at hSw)
              go_simp
              first | done | with_reducible rfl
            try simp only [Act.put, List.getElem_toArray, List.getElem_cons_zero, List.getElem_cons_succ, List.setIfInBounds_toArray, List.set_cons_zero, List.set_cons_succ]
            refine wpAnyH_done (by kernel_rfl) ?_ _
            have HWT := Lib.hid (waits_any HQ7.out (by rw [List.length_append]; have := HI24.out.lt; simp only [List.length_singleton]; omega))
            clear y1
            go_wp2_with fail
            refine HWT.out.mono ?_
            rintro e w8 ⟨v15, rfl, hown, hb8⟩
            obtain ⟨A15, c15, hv, -, -, -⟩ := ints_slice (l := (Tq ++ [z]).map QX.id) (by rw [← idsV_ints, List.length_map]; exact hown)
            rw [List.length_map, List.length_append, List.length_singleton, HM1.out] at hv
            obtain ⟨mq, hmq⟩ : ∃ m, m1 + 1 = m := ⟨_, rfl⟩
            rw [hmq] at hv
            subst hv
            have gq : (m1 : Int) < (mq : Int) := by omega
            have HO8 := Lib.hid ((HI24.out.o.turn HI24.out.q HT7.out).below hb8)
            have HB8 := Lib.hid hb8
            have HBW8 := Lib.hid (HB7.out.trans (hb8.mono HB7.out.size))
            obtain ⟨_, c1, _, _⟩ := HC.out w8 HBW8.out
            have hbA : Below w8.heap.size w8 (w8.alloc (.cells #[.int .i64 q.id] 3)) := (Below.refl _ _).alloc (Nat.le_refl _) _
            have hszA := HBW8.out.size
            clear hown hb8 hmq HWT
            go_wp2_with (
              at_builtin
              refine wpList_appTail (base := w.heap.size) rfl _ _ rfl rfl (HO8.out.below hbA) w8.heap.size rfl (cell_of_row _ _ 0 _ _ _ (heap_alloc_new w8 _)) (by rw [List.length_map]; have := HI24.out.lt; omega) (by rw [World.size_alloc]; omega) ?_
              intro v9 w9 ho9 hg9 hl9
              have HI28 := Lib.hid (HI24.out.pushed (y := z) (v' := v7) (j := i + 1) (by have := HI24.out.lt; have := HM1.out; have := HMT.out; omega) HQ7.out HT7.out (by rw [HZ1.out]; exact HWX.out) (HB8.out.trans (hbA.mono HB8.out.size)) (by rw [HZ1.out]; exact ho9) hg9 hl9)
              clear ho9 hg9 hl9 hbA c1
              skip)
            have HWT := Lib.hid (waits_any HI28.out.q (by have := HI28.out.lt; omega))
            go_wp2_with fail
            refine HWT.out.mono ?_
            rintro e w15 ⟨v15, rfl, hown, hb15⟩
            have HSW := Lib.hid (same_waits hown (HI28.out.o.below hb15) (by have := HI28.out.lt; omega))
            have HIy := Lib.hid (HI28.out.below hb15)
            clear hown hb15 HWT
            go_wp2_with fail
            refine HSW.out.mono ?_
            rintro e w16 ⟨rfl, hb16⟩
            have HIz := Lib.hid (HIy.out.below hb16)
            clear hb16 HIy HSW
            go_wp2_with fail
            go_roundw
            case rel => exact ⟨i + 1, _, _, _, _, _, _, _, _, _, _, _, _, by go_num, by omega, HIz⟩
            case measure => simp [intOf]; omega
          · have u9q : ((sf : Int) == 0) = false := by rw [beq_eq_false_iff_ne]; exact hse0
            refine wp_region_held_drew (S := (fun w' => w'.cell? ⟨g, o + i * 4 + 1, none⟩ = some (.int .i64 q.id) ∧ w'.cell? ⟨g, o + i * 4 + 2, none⟩ = some (.int .i64 q.base) ∧ w'.cell? ⟨g, o + i * 4 + 3, none⟩ = some (.slice q.A q.l.length q.c) ∧ w'.cell? ⟨b12, 1, none⟩ = some (.int .i64 y.id))) (by kernel_rfl) ⟨c1, c2, c3, y1⟩ (fun hHeld => ?_)
            refine wpAnyH_take (i := 0) (v := ?vbthn0) rfl (by kernel_rfl) (by kernel_rfl) (by kernel_rfl) (fun _ _ _ h => h) (Or.inl ⟨by rfl, ?ybthn0⟩) (by assumption) ?rbthn0
            case ybthn0 =>
              intro w hSw
              (try dsimp only at hSw)
              go_simp
              first | done | with_reducible rfl
            try simp only [Act.put, List.getElem_toArray, List.getElem_cons_zero, List.setIfInBounds_toArray, List.set_cons_zero, List.set_cons_succ]
            refine wpAnyH_take (i := 1) (v := ?vbthn1) rfl (by kernel_rfl) (by kernel_rfl) (by kernel_rfl) (fun _ _ _ h => h) (Or.inl ⟨by rfl, ?ybthn1⟩) (by assumption) ?rbthn1
            case ybthn1 =>
              intro w hSw
              (try dsimp only at hSw)
              go_simp
              first | done | with_reducible rfl
            try simp only [Act.put, List.getElem_toArray, List.getElem_cons_zero, List.getElem_cons_succ, List.setIfInBounds_toArray, List.set_cons_zero, List.set_cons_succ]
            refine wpAnyH_take (i := 2) (v := ?vbthn2) rfl (by kernel_rfl) (by kernel_rfl) (by kernel_rfl) (fun _ _ _ h => h) (Or.inl ⟨by rfl, ?ybthn2⟩) (by assumption) ?rbthn2
            case ybthn2 =>
              intro w hSw
              (try dsimp only at hSw)
              go_simp
              first | done | with_reducible rfl
            try simp only [Act.put, List.getElem_toArray, List.getElem_cons_zero, List.getElem_cons_succ, List.setIfInBounds_toArray, List.set_cons_zero, List.set_cons_succ]
            refine wpAnyH_take (i := 3) (v := ?vbthn3) rfl (by kernel_rfl) (by kernel_rfl) (by kernel_rfl) (fun _ _ _ h => h) (Or.inl ⟨by rfl, ?ybthn3⟩) (by assumption) ?rbthn3
            case ybthn3 =>
              intro w hSw
              (try dsimp only at hSw)
              go_simp
              first | done | with_reducible rfl
            try simp only [Act.put, List.getElem_toArray, List.getElem_cons_zero, List.getElem_cons_succ, List.setIfInBounds_toArray, List.set_cons_zero, List.set_cons_succ]
            refine wpAnyH_take (i := 4) (v := ?vbthn4) rfl (by kernel_rfl) (by kernel_rfl) (by kernel_rfl) (fun _ _ _ h => h) (Or.inl ⟨by rfl, ?ybthn4⟩) (by assumption) ?rbthn4
            case ybthn4 =>
              intro w hSw
              (try dsimp only at hSw)
              go_simp
              first | done | with_reducible rfl
            try simp only [Act.put, List.getElem_toArray, List.getElem_cons_zero, List.getElem_cons_succ, List.setIfInBounds_toArray, List.set_cons_zero, List.set_cons_succ]
            refine wpAnyH_take (i := 5) (v := ?vbthn5) rfl (by kernel_rfl) (by kernel_rfl) (by kernel_rfl) (fun _ _ _ h => h) (Or.inl ⟨by rfl, ?ybthn5⟩) (by assumption) ?rbthn5
            case ybthn5 =>
              intro w hSw
              (try dsimp only at hSw)
              go_simp
              first | done | with_reducible rfl
            try simp only [Act.put, List.getElem_toArray, List.getElem_cons_zero, List.getElem_cons_succ, List.setIfInBounds_toArray, List.set_cons_zero, List.set_cons_succ]
            refine wpAnyH_ready (rs := [6]) (by kernel_rfl) (by simp) ?_
            refine AllReadyH.cons rfl (fun K hK => ?_) AllReadyH.nil
            go_simp
            refine HSUB.out.mono ?_
            rintro e w7 ⟨rfl, hp7⟩
            rw [HSE.out] at hp7 ⊢
            have hbb7 : Below W24.heap.size W24 w7 := by
              rcases hp7 with ⟨_, h⟩ | ⟨h, _⟩
              · exact h
              · exact absurd h hse0
            have hb7 : Below w.heap.size w w7 := HI24.out.bel.trans (hbb7.mono HI24.out.bel.size)
            have t7 : TolB w7 b12 0 ⟨y.id, i1, i2, i3⟩ true := row_belowQ T24.out hbb7
            have HBB7 := Lib.hid hbb7
            obtain ⟨_, c1, c2, c3⟩ := HC.out w7 hb7
            have hHeld := (show _ ∧ _ ∧ _ ∧ _ from ⟨c1, c2, c3, t7.facts.2.1⟩)
            have HB7 := Lib.hid hb7
            clear hbb7 hb7 t7 hp7 c1 c2 c3
            refine hK.out _ _ hHeld (fun hHeld => ?_)
            clear hK K
            try simp only [Act.put, List.getElem_toArray, List.getElem_cons_zero, List.getElem_cons_succ, List.setIfInBounds_toArray, List.set_cons_zero, List.set_cons_succ]
            refine wpAnyH_take (i := 7) (v := ?vbthn7) rfl (by kernel_rfl) (by kernel_rfl) (by kernel_rfl) (fun _ _ _ h => h) (Or.inl ⟨by rfl, ?ybthn7⟩) (by assumption) ?rbthn7
            case ybthn7 =>
              intro w hSw
              (try dsimp only at hSw)
              go_simp
              first | done | with_reducible rfl
            try simp only [Act.put, List.getElem_toArray, List.getElem_cons_zero, List.getElem_cons_succ, List.setIfInBounds_toArray, List.set_cons_zero, List.set_cons_succ]
            refine wpAnyH_take (i := 8) (v := ?vbthn8) rfl (by kernel_rfl) (by kernel_rfl) (by kernel_rfl) (fun _ _ _ h => h) (Or.inl ⟨by rfl, ?ybthn8⟩) (by assumption) ?rbthn8
            case ybthn8 =>
              intro w hSw
              (try dsimp only at hSw)
              go_simp
              first | done | with_reducible rfl
            try simp only [Act.put, List.getElem_toArray, List.getElem_cons_zero, List.getElem_cons_succ, List.setIfInBounds_toArray, List.set_cons_zero, List.set_cons_succ]
            refine wpAnyH_take (i := 9) (v := undef) rfl (by kernel_rfl) (by kernel_rfl) (by kernel_rfl) (fun _ _ _ h => h) (Or.inr ⟨by rfl, rfl⟩) (by assumption) ?rbthn9
            try simp only [Act.put, List.getElem_toArray, List.getElem_cons_zero, List.getElem_cons_succ, List.setIfInBounds_toArray, List.set_cons_zero, List.set_cons_succ]
            refine wpAnyH_take (i := 10) (v := undef) rfl (by kernel_rfl) (by kernel_rfl) (by kernel_rfl) (fun _ _ _ h => h) (Or.inr ⟨by rfl, rfl⟩) (by assumption) ?rbthn10
            try simp only [Act.put, List.getElem_toArray, List.getElem_cons_zero, List.getElem_cons_succ, List.setIfInBounds_toArray, List.set_cons_zero, List.set_cons_succ]
            refine wpAnyH_take (i := 11) (v := undef) rfl (by kernel_rfl) (by kernel_rfl) (by kernel_rfl) (fun _ _ _ h => h) (Or.inr ⟨by rfl, rfl⟩) (by assumption) ?rbthn11
            try simp only [Act.put, List.getElem_toArray, List.getElem_cons_zero, List.getElem_cons_succ, List.setIfInBounds_toArray, List.set_cons_zero, List.set_cons_succ]
            refine wpAnyH_take (i := 12) (v := undef) rfl (by kernel_rfl) (by kernel_rfl) (by kernel_rfl) (fun _ _ _ h => h) (Or.inr ⟨by rfl, rfl⟩) (by assumption) ?rbthn12
            try simp only [Act.put, List.getElem_toArray, List.getElem_cons_zero, List.getElem_cons_succ, List.setIfInBounds_toArray, List.set_cons_zero, List.set_cons_succ]
            refine wpAnyH_take (i := 13) (v := undef) rfl (by kernel_rfl) (by kernel_rfl) (by kernel_rfl) (fun _ _ _ h => h) (Or.inr ⟨by rfl, rfl⟩) (by assumption) ?rbthn13
            try simp only [Act.put, List.getElem_toArray, List.getElem_cons_zero, List.getElem_cons_succ, List.setIfInBounds_toArray, List.set_cons_zero, List.set_cons_succ]
            refine wpAnyH_take (i := 14) (v := undef) rfl (by kernel_rfl) (by kernel_rfl) (by kernel_rfl) (fun _ _ _ h => h) (Or.inr ⟨by rfl, rfl⟩) (by assumption) ?rbthn14
            try simp only [Act.put, List.getElem_toArray, List.getElem_cons_zero, List.getElem_cons_succ, List.setIfInBounds_toArray, List.set_cons_zero, List.set_cons_succ]
            refine wpAnyH_take (i := 15) (v := undef) rfl (by kernel_rfl) (by kernel_rfl) (by kernel_rfl) (fun _ _ _ h => h) (Or.inr ⟨by rfl, rfl⟩) (by assumption) ?rbthn15
            try simp only [Act.put, List.getElem_toArray, List.getElem_cons_zero, List.getElem_cons_succ, List.setIfInBounds_toArray, List.set_cons_zero, List.set_cons_succ]
            refine wpAnyH_take (i := 16) (v := undef) rfl (by kernel_rfl) (by kernel_rfl) (by kernel_rfl) (fun _ _ _ h => h) (Or.inr ⟨by rfl, rfl⟩) (by assumption) ?rbthn16
            try simp only [Act.put, List.getElem_toArray, List.getElem_cons_zero, List.getElem_cons_succ, List.setIfInBounds_toArray, List.set_cons_zero, List.set_cons_succ]
            refine wpAnyH_take (i := 17) (v := undef) rfl (by kernel_rfl) (by kernel_rfl) (by kernel_rfl) (fun _ _ _ h => h) (Or.inr ⟨by rfl, rfl⟩) (by assumption) ?rbthn17
            try simp only [Act.put, List.getElem_toArray, List.getElem_cons_zero, List.getElem_cons_succ, List.setIfInBounds_toArray, List.set_cons_zero, List.set_cons_succ]
            refine wpAnyH_take (i := 18) (v := undef) rfl (by kernel_rfl) (by kernel_rfl) (by kernel_rfl) (fun _ _ _ h => h) (Or.inr ⟨by rfl, rfl⟩) (by assumption) ?rbthn18
            try simp only [Act.put, List.getElem_toArray, List.getElem_cons_zero, List.getElem_cons_succ, List.setIfInBounds_toArray, List.set_cons_zero, List.set_cons_succ]
            refine wpAnyH_take (i := 19) (v := ?vbthn19) rfl (by kernel_rfl) (by kernel_rfl) (by kernel_rfl) (fun _ _ _ h => h) (Or.inl ⟨by rfl, ?ybthn19⟩) (by assumption) ?rbthn19
            case ybthn19 =>
              intro w hSw
              (try dsimp only at hSw)
              go_simp
              first | done | with_reducible rfl
            try simp only [Act.put, List.getElem_toArray, List.getElem_cons_zero, List.getElem_cons_succ, List.setIfInBounds_toArray, List.set_cons_zero, List.set_cons_succ]
            refine wpAnyH_done (by kernel_rfl) ?_ _
            have HI25 := Lib.hid (HI24.out.below HBB7.out)
            have HWT := Lib.hid (waits_any HI25.out.q (by have := HI25.out.lt; omega))
            clear y1
            go_wp2_with fail
            refine HWT.out.mono ?_
            rintro e w8 ⟨v15, rfl, hown, hb8⟩
            obtain ⟨A15, c15, hv, -, -, -⟩ := ints_slice (l := Tq.map QX.id) (by rw [← idsV_ints, List.length_map]; exact hown)
            rw [List.length_map, HM1.out] at hv
            subst hv
            have gq : ¬ (m1 : Int) < (m1 : Int) := by omega
            have HI28 := Lib.hid (HI25.out.below hb8)
            clear hown hb8 HWT
            have HWT := Lib.hid (waits_any HI28.out.q (by have := HI28.out.lt; omega))
            go_wp2_with fail
            refine HWT.out.mono ?_
            rintro e w15 ⟨v15, rfl, hown, hb15⟩
            have HSW := Lib.hid (same_waits hown (HI28.out.o.below hb15) (by have := HI28.out.lt; omega))
            have HIy := Lib.hid (HI28.out.below hb15)
            clear hown hb15 HWT
            go_wp2_with fail
            refine HSW.out.mono ?_
            rintro e w16 ⟨rfl, hb16⟩
            have HIz := Lib.hid (HIy.out.below hb16)
            clear hb16 HIy HSW
            go_wp2_with fail
            go_roundw
            case rel => exact ⟨i + 1, _, _, _, _, _, _, _, _, _, _, _, _, by go_num, by omega, HIz⟩
            case measure => simp [intOf]; omega
      by_cases e4 : xk = 4
      · subst e4
        have hdid := did_com w HI.out.q HI.out.h HNE.out HI.out.bel (by omega) q HDX.out HSX.out HM.out
        unfold doV at hdid
        have HDID := Lib.hid hdid
        clear hdid
        go_wp2_with fail
        refine HHD.out.mono ?_
        rintro e wq ⟨rfl, hwq⟩
        have hwq := hwq.symm
        subst hwq
        go_wp2_with fail
        refine HDID.out.mono ?_
        rintro e w4 ⟨E, rfl, hp4⟩
        simp only [told, noA]
        obtain ⟨hq4, hb4, hf4, hh4⟩ := hp4
        obtain ⟨n2, hn2, nm2, M2, nv2, cv2, k2, D2, H2, hH2⟩ : ∃ n2, (n ≤ n2 ∧ n2 ≤ n + 1) ∧ ∃ nm M nv cv k D H, HistAt w.heap.size w4 hb n2 nm M nv cv mb k D H := by
          rcases hh4 with ⟨_, _, nv', cv', k', D', h⟩ | ⟨_, nm', nv', cv', k', D', G', _, h⟩
          · exact ⟨n, by omega, _, _, _, _, _, _, _, h⟩
          · exact ⟨n + 1, by omega, _, _, _, _, _, _, _, h⟩
        have HI4 := Lib.hid (show OnceI w w4 qb hb ab mb u8 u9 (i + 1) n2 Tq L vq nm2 M2 nv2 cv2 k2 D2 H2 rv from ⟨hq4, hH2, HI.out.o.frame HI.out.q hf4, HI.out.r.frame HI.out.q hf4, HI.out.ris, fun x hx => by have := HI.out.top x hx; omega, HI.out.ap, HI.out.ids, by omega, HI.out.bel.trans hb4⟩)
        clear hq4 hb4 hf4 hh4 hH2
        obtain ⟨b12, hb12⟩ : ∃ b, w4.heap.size = b := ⟨_, rfl⟩
        obtain ⟨W12, hW12⟩ : ∃ W, w4.alloc (.cells #[.int .i64 0, .int .i64 0, .int .i64 0, .int .i64 0, .int .i64 0, .bool false] 38) = W := ⟨_, rfl⟩
        have a12 : TolB W12 b12 0 noA false := by unfold TolB; rw [← hW12, ← hb12]; exact heap_alloc_new _ _
        have hbl12 : Below w4.heap.size w4 W12 := by rw [← hW12]; exact (Below.refl _ _).alloc (Nat.le_refl _) _
        obtain ⟨t12, g12⟩ := a12.all E 0 0 0 0 false
        obtain ⟨V12, hV12⟩ : ∃ W, (((((W12.setCell ⟨b12, 0, none⟩ (.int .i64 E)).setCell ⟨b12, 1, none⟩ (.int .i64 0)).setCell ⟨b12, 2, none⟩ (.int .i64 0)).setCell ⟨b12, 3, none⟩ (.int .i64 0)).setCell ⟨b12, 4, none⟩ (.int .i64 0)).setCell ⟨b12, 5, none⟩ (.bool false) = W := ⟨_, rfl⟩
        rw [hV12] at t12 g12
        have hbm12 : Below w4.heap.size w4 V12 := hbl12.grown g12 hbl12.size (fun j e => by cases e; omega)
        obtain ⟨z0, z1, z2, z3, z4, z5⟩ := a12.facts
        obtain ⟨f0, f1, f2, f3, f4, f5⟩ := a12.free
        simp only [noA] at z0 z1 z2 z3 z4
        have HV12 := Lib.hid hV12
        have T12 := Lib.hid t12
        have HBM12 := Lib.hid hbm12
        clear a12 hbl12 t12 g12 hV12 hbm12
        clear c0 c1 c2 c3
        go_upto_region 14 with fail
        rw [HV12.out]
        clear z0 z1 z2 z3 z4 z5 f0 f1 f2 f3 f4 f5 hW12 hb12
        obtain ⟨y0, y1, y2, y3, y4, y5⟩ := T12.out.facts
        simp only [] at y0 y1 y2 y3 y4 y5
        have HI12 := Lib.hid (HI4.out.below HBM12.out)
        obtain ⟨c0, c1, c2, c3⟩ := HC.out V12 HI12.out.bel
        have HWT := Lib.hid (waits_any HI12.out.q (by have := HI12.out.lt; omega))
        go_wp2_with fail
        refine HWT.out.mono ?_
        rintro e w15 ⟨v15, rfl, hown, hb15⟩
        have HSW := Lib.hid (same_waits hown (HI12.out.o.below hb15) (by have := HI12.out.lt; omega))
        have HIy := Lib.hid (HI12.out.below hb15)
        clear hown hb15 HWT
        go_wp2_with fail
        refine HSW.out.mono ?_
        rintro e w16 ⟨rfl, hb16⟩
        have HIz := Lib.hid (HIy.out.below hb16)
        clear hb16 HIy HSW
        go_wp2_with fail
        go_roundw
        case rel => exact ⟨i + 1, _, _, _, _, _, _, _, _, _, _, _, _, by go_num, by omega, HIz⟩
        case measure => simp [intOf]; omega
      · have u1 : ((xk : Int) == 1) = false := by rw [beq_eq_false_iff_ne]; exact e1
        have hdid := did_other xk q (.pointer (some ⟨qb, 0, none⟩)) wr e1 e2 e3 e4
        unfold doV at hdid
        have HDID := Lib.hid hdid
        clear hdid
        go_wp2_with fail
        refine HHD.out.mono ?_
        rintro e wq ⟨rfl, hwq⟩
        have hwq := hwq.symm
        subst hwq
        go_wp2_with fail
        refine HDID.out.mono ?_
        rintro e w4 ⟨rfl, hb4⟩
        simp only [told, noA]
        have HI4 := Lib.hid (HI.out.below hb4)
        clear hb4
        obtain ⟨b12, hb12⟩ : ∃ b, w4.heap.size = b := ⟨_, rfl⟩
        obtain ⟨W12, hW12⟩ : ∃ W, w4.alloc (.cells #[.int .i64 0, .int .i64 0, .int .i64 0, .int .i64 0, .int .i64 0, .bool false] 38) = W := ⟨_, rfl⟩
        have a12 : TolB W12 b12 0 noA false := by unfold TolB; rw [← hW12, ← hb12]; exact heap_alloc_new _ _
        have hbl12 : Below w4.heap.size w4 W12 := by rw [← hW12]; exact (Below.refl _ _).alloc (Nat.le_refl _) _
        obtain ⟨t12, g12⟩ := a12.all 0 0 0 0 0 false
        obtain ⟨V12, hV12⟩ : ∃ W, (((((W12.setCell ⟨b12, 0, none⟩ (.int .i64 0)).setCell ⟨b12, 1, none⟩ (.int .i64 0)).setCell ⟨b12, 2, none⟩ (.int .i64 0)).setCell ⟨b12, 3, none⟩ (.int .i64 0)).setCell ⟨b12, 4, none⟩ (.int .i64 0)).setCell ⟨b12, 5, none⟩ (.bool false) = W := ⟨_, rfl⟩
        rw [hV12] at t12 g12
        have hbm12 : Below w4.heap.size w4 V12 := hbl12.grown g12 hbl12.size (fun j e => by cases e; omega)
        obtain ⟨z0, z1, z2, z3, z4, z5⟩ := a12.facts
        obtain ⟨f0, f1, f2, f3, f4, f5⟩ := a12.free
        simp only [noA] at z0 z1 z2 z3 z4
        have HV12 := Lib.hid hV12
        have T12 := Lib.hid t12
        have HBM12 := Lib.hid hbm12
        clear a12 hbl12 t12 g12 hV12 hbm12
        clear c0 c1 c2 c3
        go_upto_region 14 with fail
        rw [HV12.out]
        clear z0 z1 z2 z3 z4 z5 f0 f1 f2 f3 f4 f5 hW12 hb12
        obtain ⟨y0, y1, y2, y3, y4, y5⟩ := T12.out.facts
        simp only [] at y0 y1 y2 y3 y4 y5
        have HI12 := Lib.hid ((HI4.out.below HBM12.out).next)
        obtain ⟨c0, c1, c2, c3⟩ := HC.out V12 HI12.out.bel
        have HWT := Lib.hid (waits_any HI12.out.q (by have := HI12.out.lt; omega))
        go_wp2_with fail
        refine HWT.out.mono ?_
        rintro e w15 ⟨v15, rfl, hown, hb15⟩
        have HSW := Lib.hid (same_waits hown (HI12.out.o.below hb15) (by have := HI12.out.lt; omega))
        have HIy := Lib.hid (HI12.out.below hb15)
        clear hown hb15 HWT
        go_wp2_with fail
        refine HSW.out.mono ?_
        rintro e w16 ⟨rfl, hb16⟩
        have HIz := Lib.hid (HIy.out.below hb16)
        clear hb16 HIy HSW
        go_wp2_with fail
        go_roundw
        case rel => exact ⟨i + 1, _, _, _, _, _, _, _, _, _, _, _, _, by go_num, by omega, HIz⟩
        case measure => simp [intOf]; omega
    · have k1 : ¬ (i : Int) < (N : Int) := by omega
      obtain ⟨Ar, cr, hvr, hIr⟩ := HI.out.r.ints
      obtain ⟨nr, hnr⟩ : ∃ n, rv.length = n := ⟨_, rfl⟩
      rw [hnr] at hvr
      subst hvr
      have HIR := Lib.hid hIr
      have HNR := Lib.hid hnr
      have HRS := Lib.hid HI.out.ris
      have HBO := Lib.hid HI.out.bel
      have hnr30 : nr ≤ 100 := by have := HI.out.lt; omega
      clear hIr hnr HI
      go_wp2_with fail
      go_loopw [13] (fun v13 wq => ∃ (j : Nat), v13 = .int .i64 ((j : Int) + 1) ∧ Hid (Below wr.heap.size wr wq)) (fun v13 _ => nr + 1 - (intOf v13).toNat)
      case atStart => exact ⟨0, rfl, Lib.hid (Below.refl _ _)⟩
      case round =>
        obtain ⟨j, rfl, HBQ⟩ := hrel
        by_cases hlt2 : j + 1 < nr
        · have k2 : (j : Int) + 1 < (nr : Int) := by omega
          obtain ⟨g2, o2, hA, hc⟩ := (HIR.out.below HBQ.out) (by rw [HNR.out]; omega)
          subst hA
          have l1 : j + 1 < rv.length := by rw [HNR.out]; exact hlt2
          have l0 : j < rv.length := by omega
          obtain ⟨p, hp⟩ : ∃ p, rv[j + 1]? = some p := ⟨_, List.getElem?_eq_getElem l1⟩
          obtain ⟨p0, hp0⟩ : ∃ p, rv[j]? = some p := ⟨_, List.getElem?_eq_getElem l0⟩
          have c1 := hc _ p hp
          have c0 := hc _ p0 hp0
          have hpp : p0 < p := by
            have h1 := List.pairwise_iff_getElem.1 HRS.out j (j + 1) l0 l1 (by omega)
            rw [List.getElem?_eq_getElem l1] at hp
            rw [List.getElem?_eq_getElem l0] at hp0
            cases hp
            cases hp0
            exact h1
          have d1 : decide ((p : Int) ≤ p0) = false := decide_eq_false (by omega)
          have d2 : ¬ (p : Int) ≤ p0 := by omega
          have w2 : IntKind.i64.wrap ((j : Int) + 1 - 1) = (j : Int) := by rw [IntWalk.i64_in _ (by omega)]; omega
          have w3 : IntKind.i64.wrap ((j : Int) + 1 + 1) = ((j + 1 : Nat) : Int) + 1 := by rw [IntWalk.i64_in _ (by omega)]; omega
          clear l1 l0 hp hp0 hc hpp
          go_wp2_with fail
          go_quiet (fail)
          go_wp2_with fail
          go_roundw
          case rel => exact ⟨j + 1, by go_num, Lib.hid (belowQn HBQ.out _)⟩
          case measure => simp [intOf]; omega
        · have k2 : ¬ (j : Int) + 1 < (nr : Int) := by omega
          have HBZ := Lib.hid (HBO.out.trans (HBQ.out.mono HBO.out.size))
          have HKZ := Lib.hid (HKN.out wr HBZ.out)
          go_wp2_with fail
          refine HKZ.out.mono ?_
          rintro e wk ⟨rfl, hbk⟩
          have HBK := Lib.hid (show Below w.heap.size w wk from HBZ.out.trans (hbk.mono HBZ.out.size))
          clear hbk
          go_wp2_with fail
          go_ret
          exact ⟨rfl, HBK.out⟩
end Go.Proofs.YtnkfnmkbfnhmfaaDoor
