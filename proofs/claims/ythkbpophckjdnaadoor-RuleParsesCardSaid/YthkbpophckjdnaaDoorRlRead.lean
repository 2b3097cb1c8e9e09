/-
  The contract of form.read.
-/
import Derived.Test.YthkbpophckjdnaaDoorRlWords
import Derived.Test.YthkbpophckjdnaaDoorRlPrint
import Derived.Deep.MidRow
import Derived.Deep.RegionHeld3
import Derived.BigQuiet
namespace Go.Proofs.YthkbpophckjdnaaDoor
open Go Go.RowKit Go.Shelf Go.Proofs
attribute [local go_sem] Oper.semAt_some

theorem quoteB_ge : ∀ s : Bs, s.length ≤ (quoteB s).length
  | [] => Nat.le_refl _
  | c :: r => by
    have ih := quoteB_ge r
    have h := List.length_pos_iff.2 (qb_ne c)
    unfold quoteB at ih ⊢
    rw [List.flatMap_cons, List.length_append, List.length_cons]
    omega
theorem quoteL_ge (s : Bs) : s.length ≤ (quoteL s).length := by
  unfold quoteL
  split
  · rename_i h
    have : s = [] := by simpa using h
    rw [this]; simp
  · exact quoteB_ge s
theorem unq_none {q : Bs} (h : (unqV q).2 = false) : unquoteL q = none := by
  unfold unqV at h
  cases e : unquoteL q with
  | none => rfl
  | some t => rw [e] at h; cases h
theorem unq_is {q : Bs} (h : (unqV q).2 = true) : unquoteL q = some (unqV q).1 := by
  unfold unqV at h ⊢
  cases e : unquoteL q with
  | none => rw [e] at h; cases h
  | some t => rfl
theorem unq_len (q : Bs) : (unqV q).1.length ≤ q.length := by
  cases h : (unqV q).2 with
  | true =>
    have := unquote_some (unq_is h)
    rw [this]
    rw [show unqV (quoteL (unqV q).1) = ((unqV q).1, true) from by unfold unqV; rw [unquote_quote]]
    exact quoteL_ge _
  | false =>
    have : (unqV q).1 = [] := by
      unfold unqV
      rw [unq_none h]
    rw [this]; exact Nat.zero_le _
/-- The texts of the first j words behind the glob. -/
def TextsTo (Q : List Bs) (j : Nat) (o n : Bs) : Prop := textAt Q j 0 = some o ∧ textAt Q j 1 = some n ∧ o.length ≤ 1000000 ∧ n.length ≤ 1000000
theorem TextsTo.start (Q : List Bs) : TextsTo Q 0 [] [] := ⟨rfl, rfl, Nat.zero_le _, Nat.zero_le _⟩
theorem TextsTo.first {Q : List Bs} {o n q : Bs} (h : TextsTo Q 0 o n) (hq : Q[0]? = some q) (hl : q.length ≤ 1000000) (hu : (unqV q).2 = true) : TextsTo Q 1 (unqV q).1 n := by
  have hl2 := unq_len q
  refine ⟨?_, h.2.1, by omega, h.2.2.2⟩
  unfold textAt
  rw [if_pos (by omega), List.getD_eq_getElem?_getD, hq]
  exact unq_is hu
theorem TextsTo.second {Q : List Bs} {o n q : Bs} (h : TextsTo Q 1 o n) (hq : Q[1]? = some q) (hl : q.length ≤ 1000000) (hu : (unqV q).2 = true) : TextsTo Q 2 o (unqV q).1 := by
  have hl2 := unq_len q
  refine ⟨h.1, ?_, h.2.2.1, by omega⟩
  unfold textAt
  rw [if_pos (by omega), List.getD_eq_getElem?_getD, hq]
  exact unq_is hu
theorem readU_bad {k j : Nat} {g q : Bs} {Q : List Bs} (hj : j < textsN k) (hq : Q[j]? = some q) (hu : (unqV q).2 = false) : readU k g Q = none := by
  have ht := texts_le k
  have h1 : textAt Q (textsN k) j = none := by
    unfold textAt
    rw [if_pos hj, List.getD_eq_getElem?_getD, hq]
    exact unq_none hu
  unfold readU
  match j, hj with
  | 0, hj => rw [h1]; rfl
  | 1, hj => rw [h1]; cases textAt Q (textsN k) 0 <;> rfl
  | j + 2, hj => omega
theorem readU_all {k : Nat} {g o n : Bs} {Q : List Bs} (h : TextsTo Q (textsN k) o n) : readU k g Q = if rightU ⟨k, g, o, n⟩ then some ⟨k, g, o, n⟩ else none := by
  unfold readU
  rw [h.1, h.2.1]; rfl
theorem there4 {w : World} {N : Nat} {a b c d : Value} {t : TypeId} (h : w.heap[N]? = some (.cells #[a, b, c, d] t (0, 0))) {j : Nat} (hj : j < 4) : (w.cell? ⟨N, 0 + j, none⟩).isSome = true ∧ w.frozen? ⟨N, 0 + j, none⟩ = false := by
  refine ⟨?_, frozen_of_row w N _ _ _ h⟩
  rw [cell_of_row w N _ _ _ _ h, Nat.zero_add]
  match j, hj with
  | 0, _ => rfl
  | 1, _ => rfl
  | 2, _ => rfl
  | 3, _ => rfl
theorem store4 {w : World} {N : Nat} {a b c d : Value} {t : TypeId} (h : w.heap[N]? = some (.cells #[a, b, c, d] t (0, 0))) (v x y z : Value) : (w.setCells N 0 [v, x, y, z]).heap[N]? = some (.cells #[v, x, y, z] t (0, 0)) ∧ ∀ k, k ≠ N → (w.setCells N 0 [v, x, y, z]).heap[k]? = w.heap[k]? := by
  have e1 := heap_setCell_same w N 0 _ _ v h
  have e2 := heap_setCell_same _ N 1 _ _ x e1
  have e3 := heap_setCell_same _ N 2 _ _ y e2
  have e4 := heap_setCell_same _ N 3 _ _ z e3
  refine ⟨e4, fun k hk => ?_⟩
  have o : ∀ (W : World) (i : Nat) (u : Value), (W.setCell ⟨N, i, none⟩ u).heap[k]? = W.heap[k]? := fun W i u => heap_setCell_other W ⟨N, i, none⟩ k u hk
  exact (o _ 3 z).trans ((o _ 2 y).trans ((o _ 1 x).trans (o w 0 v)))
theorem store4_below {B N : Nat} (w : World) (v x y z : Value) (hN : B ≤ N) : Below B w (w.setCells N 0 [v, x, y, z]) :=
  ((((Below.refl B w).setCell (p := ⟨N, 0, none⟩) hN v).setCell (p := ⟨N, 1, none⟩) hN x).setCell (p := ⟨N, 2, none⟩) hN y).setCell (p := ⟨N, 3, none⟩) hN z
theorem results_ct2 {P : Program} {fn : Func} {p u : Tmp} {ty : TypeId} (h : fn.results = #[.cell p ty, .tmp u]) (tmps : Array Value) (w : World) (g : Nat) (t : TypeId) (cs : Array Value) (fr : Nat × Nat) (d : TypeDesc)
    (v : Value) (hp : tmps.getD p undef = .pointer (some ⟨g, 0, none⟩)) (hv : tmps.getD u undef = v) (hg : w.heap[g]? = some (.cells cs t fr))
    (hu : P.underlying ty = some d) (hd : (match d with | .struct _ | .array _ _ => true | _ => false) = true) (hi : (P.info? ty).map (·.size) = some cs.size) :
    (results fn tmps).run P w = .ok (.tuple #[.agg cs, v]) w := by
  subst hv
  have hp' : tmps[p]?.getD undef = .pointer (some ⟨g, 0, none⟩) := by simpa using hp
  simp [results, h, hp', asAddr, run_loadVar_row w g t ty cs fr d hg hu hd hi]
/-- What read answers. -/
def ReadPost (R : Option Ru) (w : World) (e : Ending) (w' : World) : Prop := ∃ (x : RX) (b : Bool), e = .returned (.tuple #[.agg #[.int .i64 x.k, .string x.g, .string x.o, .string x.n], .bool b]) ∧ R = (if b then some x.ru else none) ∧ Below w.heap.size w w'

set_option maxRecDepth 100000 in
set_option maxHeartbeats 8000000 in
theorem read_any (k : Nat) (g : ByteArray) (Q : List Bs) (gq oq c : Nat) (w : World) (_hk : 1 ≤ k ∧ k ≤ 5) (hQ : Q.length = textsN k) (hq : ∀ i p, Q[i]? = some p → w.cell? ⟨gq, oq + i, none⟩ = some (.string (mkB p))) (hgq : gq < w.heap.size) (hcap : Q.length ≤ c) (hl : ∀ p ∈ Q, p.length ≤ 1000000) (hg : g.size ≤ 1000000) (hm : MaxOk w) :
    Calls Tryd.prog 31 #[.agg #[.int .i64 k, .int .i64 (textsN k)], .string g, .slice (some ⟨gq, oq, none⟩) Q.length c] w (ReadPost (readU k g.data.toList Q) w) := by
  have htl := texts_le k
  obtain ⟨t, ht⟩ : ∃ t, textsN k = t := ⟨_, rfl⟩
  have HT := Lib.hid ht
  rw [ht] at hQ htl ⊢
  rw [hQ]
  obtain ⟨RR, hRR⟩ : ∃ RR, readU k g.data.toList Q = RR := ⟨_, rfl⟩
  rw [hRR]
  obtain ⟨B, hB⟩ : ∃ B, w.heap.size = B := ⟨_, rfl⟩
  obtain ⟨W1, hW1⟩ : ∃ W1, w.alloc (.cells #[.int .i64 k, .int .i64 t] 58) = W1 := ⟨_, rfl⟩
  obtain ⟨W2, hW2⟩ : ∃ W2, W1.alloc (.cells #[.int .i64 0, .string ⟨#[]⟩, .string ⟨#[]⟩, .string ⟨#[]⟩] 35) = W2 := ⟨_, rfl⟩
  obtain ⟨W3, hW3⟩ : ∃ W3, W2.alloc (.cells #[.int .i64 k, .string g, .string ⟨#[]⟩, .string ⟨#[]⟩] 35) = W3 := ⟨_, rfl⟩
  have s1 : W1.heap.size = B + 1 := by rw [← hW1, World.size_alloc, hB]
  have s2 : W2.heap.size = B + 2 := by rw [← hW2, World.size_alloc, s1]
  have s3 : W3.heap.size = B + 3 := by rw [← hW3, World.size_alloc, s2]
  have b1 : Below B w W1 := by rw [← hW1]; exact (Below.refl B w).alloc (by omega) _
  have n1 : W1.heap[B]? = some (.cells #[.int .i64 k, .int .i64 t] 58 (0, 0)) := by rw [← hW1, ← hB]; exact heap_alloc_new _ _
  have b2 : Below (B + 1) W1 W2 := by rw [← hW2]; exact (Below.refl _ _).alloc (by omega) _
  have n2 : W2.heap[B + 1]? = some (.cells #[.int .i64 0, .string ⟨#[]⟩, .string ⟨#[]⟩, .string ⟨#[]⟩] 35 (0, 0)) := by rw [← hW2, ← s1]; exact heap_alloc_new _ _
  have m2 := (b2.block B (by omega)).trans n1
  have b3 : Below (B + 2) W2 W3 := by rw [← hW3]; exact (Below.refl _ _).alloc (by omega) _
  have n3 : W3.heap[B + 2]? = some (.cells #[.int .i64 k, .string g, .string ⟨#[]⟩, .string ⟨#[]⟩] 35 (0, 0)) := by rw [← hW3, ← s2]; exact heap_alloc_new _ _
  have m3 := (b3.block B (by omega)).trans m2
  have z3 := (b3.block (B + 1) (by omega)).trans n2
  have p0 := cell_of_row _ _ 0 _ _ _ m2
  have q0 := cell_of_row _ _ 0 _ _ _ m3
  have q1 := cell_of_row _ _ 1 _ _ _ m3
  simp only [List.getElem?_toArray, List.getElem?_cons_zero, List.getElem?_cons_succ] at p0 q0 q1
  have HP := Lib.hid (places_any k t (B + 2) W3 htl)
  have hb3 : Below B w W3 := (b1.trans (b2.mono (by omega))).trans (b3.mono (by omega))
  have HB3 := Lib.hid hb3
  have N3 := Lib.hid n3
  have Z3 := Lib.hid z3
  have HW1 := Lib.hid hW1
  have HW2 := Lib.hid hW2
  have HW3 := Lib.hid hW3
  have S2 := Lib.hid s2
  have S3 := Lib.hid s3
  have HB := Lib.hid hB
  have HRR := Lib.hid hRR
  have HMX := Lib.hid hm
  have HQC := Lib.hid hq
  have HQL := Lib.hid hl
  clear hW1 hW2 hW3 s1 s2 s3 b1 n1 b2 n2 m2 b3 n3 m3 z3 hB ht hRR hb3 hq hl hm
  go_enter Tryd.func31, Tryd.ntmps31
  go_upto_region 1 with fail
  rw [HW1.out, HW2.out, HB.out]
  go_upto_region 2 with fail
  rw [HW3.out, S2.out]
  go_wp2_with fail
  refine HP.out.mono ?_
  rintro e w4 ⟨gp, rfl, hg1, hg2, hgc, hb4⟩
  rw [S3.out] at hg1 hb4
  have hz4 : B + 3 ≤ w4.heap.size := by have := hb4.size; rw [S3.out] at this; exact this
  have n4 := (hb4.block (B + 2) (by omega)).trans N3.out
  have z4 := (hb4.block (B + 1) (by omega)).trans Z3.out
  have B4 := Lib.hid (HB3.out.trans (hb4.mono (by omega)))
  have N4 := Lib.hid n4
  have Z4 := Lib.hid z4
  have GC := Lib.hid hgc
  clear hb4 n4 z4 hgc p0 q0 q1 HP N3 Z3 HB3 HW1 HW2 HW3
  go_wp2_with fail
  go_loopw [9, 10, 11, 12, 20] (fun v9 v10 v11 v12 i wr => ∃ (j : Nat) (O N : Bs), j ≤ t ∧ i = .int .i64 j ∧ Hid (TextsTo Q j O N) ∧ Hid (wr.heap[B + 2]? = some (.cells #[.int .i64 k, .string g, .string (mkB O), .string (mkB N)] 35 (0, 0))) ∧ Hid (wr.heap[B + 1]? = some (.cells #[.int .i64 0, .string ⟨#[]⟩, .string ⟨#[]⟩, .string ⟨#[]⟩] 35 (0, 0))) ∧ Hid (wr.heap[gp]? = some (.cells #[.pointer (some ⟨B + 2, 2, none⟩), .pointer (some ⟨B + 2, 3, none⟩)] 90 (0, 0))) ∧ Below B w wr ∧ B + 3 ≤ wr.heap.size) (fun _ _ _ _ i _ => t - (intOf i).toNat)
  case atStart => exact ⟨0, [], [], Nat.zero_le _, rfl, TextsTo.start Q, N4.out, Z4.out, GC.out, B4.out, hz4⟩
  case round =>
    obtain ⟨j, O, N, hj, rfl, HTX, HN, HZ, HGP, hbr, hzr⟩ := hrel
    by_cases hlt : j < t
    · have j1 : (j : Int) < (t : Int) := by omega
      obtain ⟨p, hp⟩ : ∃ p, Q[j]? = some p := ⟨_, List.getElem?_eq_getElem (by omega)⟩
      have hpl := HQL.out p (List.mem_of_getElem? hp)
      have cq := (hbr.cell (p := ⟨gq, oq + j, none⟩) (by rw [← HB.out]; exact hgq)).trans (HQC.out j p hp)
      have cp : wr.cell? ⟨gp, j, none⟩ = some (.pointer (some ⟨B + 2, 2 + j, none⟩)) := by
        match j, hlt with
        | 0, _ => exact cell_of_row _ _ 0 _ _ _ HGP.out
        | 1, _ => exact cell_of_row _ _ 1 _ _ _ HGP.out
        | j + 2, hlt => omega
      have HU := Lib.hid (unquote_any (mkB p) wr (by rw [mkB_size]; omega))
      rw [mkB_data] at HU
      have HPP := Lib.hid hp
      have jc : (j : Int) < (c : Int) := by omega
      clear hp
      cases hu : (unqV p).2 with
      | false =>
        rw [hu] at HU
        have hbad := readU_bad (k := k) (g := g.data.toList) (by rw [HT.out]; exact hlt) HPP.out hu
        have HBAD := Lib.hid hbad
        clear hbad hu
        go_wp2_with fail
        refine HU.out.mono ?_
        rintro e w5 ⟨rfl, hb5⟩
        have z5 := (hb5.block (B + 1) (by omega)).trans HZ.out
        have e0 := cell_of_row _ _ 0 _ _ _ z5
        have e1 := cell_of_row _ _ 1 _ _ _ z5
        have e2 := cell_of_row _ _ 2 _ _ _ z5
        have e3 := cell_of_row _ _ 3 _ _ _ z5
        have f0 := frozen_of_row _ _ 0 _ _ z5
        have f1 := frozen_of_row _ _ 1 _ _ z5
        have f2 := frozen_of_row _ _ 2 _ _ z5
        have f3 := frozen_of_row _ _ 3 _ _ z5
        simp only [List.getElem?_toArray, List.getElem?_cons_zero, List.getElem?_cons_succ] at e0 e1 e2 e3
        have hb05 := hbr.trans (hb5.mono (by omega))
        have HB05 := Lib.hid hb05
        have Z5 := Lib.hid z5
        clear hb5 hb05 z5
        go_wp2_with fail
        have hst := store4 Z5.out (.int .i64 0) (.string ⟨#[]⟩) (.string ⟨#[]⟩) (.string ⟨#[]⟩)
        have hbz := store4_below (B := B) (N := B + 1) w5 (.int .i64 0) (.string ⟨#[]⟩) (.string ⟨#[]⟩) (.string ⟨#[]⟩) (by omega)
        have hfin : ReadPost RR w (.returned (.tuple #[.agg #[.int .i64 0, .string ⟨#[]⟩, .string ⟨#[]⟩, .string ⟨#[]⟩], .bool false])) (w5.setCells (B + 1) 0 [.int .i64 0, .string ⟨#[]⟩, .string ⟨#[]⟩, .string ⟨#[]⟩]) := ⟨⟨0, ⟨#[]⟩, ⟨#[]⟩, ⟨#[]⟩⟩, false, rfl, by rw [← HRR.out, HBAD.out]; rfl, (by rw [HB.out]; exact HB05.out.trans hbz)⟩
        exact bodyPost_ret (results_ct2 rfl _ _ _ _ _ (0, 0) _ (.bool false) rfl rfl hst.1 Tryd.underlying35 rfl (by kernel_rfl)) rfl hfin
      | true =>
        rw [hu] at HU
        have HUU := Lib.hid hu
        clear hu
        go_wp2_with fail
        refine HU.out.mono ?_
        rintro e w5 ⟨rfl, hb5⟩
        have n5 := (hb5.block (B + 2) (by omega)).trans HN.out
        have e2 := cell_of_row _ _ 2 _ _ _ n5
        have e3 := cell_of_row _ _ 3 _ _ _ n5
        have f2 := frozen_of_row _ _ 2 _ _ n5
        have f3 := frozen_of_row _ _ 3 _ _ n5
        simp only [List.getElem?_toArray, List.getElem?_cons_zero, List.getElem?_cons_succ] at e2 e3
        have hb05 := hbr.trans (hb5.mono (by omega))
        have hzz := (hb5.block (B + 1) (by omega)).trans HZ.out
        have hgp := (hb5.block gp (Array.getElem?_eq_some_iff.1 HGP.out).1).trans HGP.out
        have HB05 := Lib.hid hb05
        have HZZ := Lib.hid hzz
        have HGG := Lib.hid hgp
        have N5 := Lib.hid n5
        have hz5 := hb5.size
        clear hb5 hb05 n5 hzz hgp
        rcases (show j = 0 ∨ j = 1 by omega) with rfl | rfl
        · skip
          go_wp2_with fail
          have hp0 : Q[0]? = some p := HPP.out
          have hsr := heap_setCell_same w5 (B + 2) 2 _ _ (.string (mkB (unqV p).1)) N5.out
          refine ⟨⟨1, (unqV p).1, N, by omega, by rfl, HTX.out.first hp0 hpl HUU.out, hsr, (heap_setCell_other w5 ⟨B + 2, 2, none⟩ (B + 1) _ (by show B + 1 ≠ B + 2; omega)).trans HZZ.out, (heap_setCell_other w5 ⟨B + 2, 2, none⟩ gp _ (by show gp ≠ B + 2; omega)).trans HGG.out, HB05.out.setCell (p := ⟨B + 2, 2, none⟩) (by show B ≤ B + 2; omega) _, by rw [show (w5.setCell ⟨B + 2, 2, none⟩ (.string (mkB (unqV p).1))).heap.size = w5.heap.size from by simp]; omega⟩, by show t - 1 < t - 0; omega⟩
        · skip
          go_wp2_with fail
          have hp0 : Q[1]? = some p := HPP.out
          have hsr := heap_setCell_same w5 (B + 2) 3 _ _ (.string (mkB (unqV p).1)) N5.out
          refine ⟨⟨2, O, (unqV p).1, by omega, by rfl, HTX.out.second hp0 hpl HUU.out, hsr, (heap_setCell_other w5 ⟨B + 2, 3, none⟩ (B + 1) _ (by show B + 1 ≠ B + 2; omega)).trans HZZ.out, (heap_setCell_other w5 ⟨B + 2, 3, none⟩ gp _ (by show gp ≠ B + 2; omega)).trans HGG.out, HB05.out.setCell (p := ⟨B + 2, 3, none⟩) (by show B ≤ B + 2; omega) _, by rw [show (w5.setCell ⟨B + 2, 3, none⟩ (.string (mkB (unqV p).1))).heap.size = w5.heap.size from by simp]; omega⟩, by show t - 2 < t - 1; omega⟩
    · obtain rfl : j = t := by omega
      have hrx := readU_all (k := k) (g := g.data.toList) (by rw [HT.out]; exact HTX.out)
      have hfit := HTX.out.2.2
      have HRT := Lib.hid (right_rule ⟨k, g, mkB O, mkB N⟩ wr.drew (by show g.size ≤ _; unfold maxLen; omega) (by show (mkB O).size ≤ _; rw [mkB_size]; unfold maxLen; omega) (by show (mkB N).size ≤ _; rw [mkB_size]; unfold maxLen; omega) (HMX.out.belowN (n := B) (hbr.trans (Below.refl _ wr).drew) (by have := HB.out; omega)))
      have hruu : (RX.ru ⟨k, g, mkB O, mkB N⟩) = ⟨(k : Int), g.data.toList, O, N⟩ := by simp [RX.ru, mkB_data]
      rw [hruu] at HRT
      obtain ⟨bb, hbb⟩ : ∃ bb, rightU ⟨(k : Int), g.data.toList, O, N⟩ = bb := ⟨_, rfl⟩
      rw [hbb] at HRT hrx
      rw [HRR.out] at hrx
      have HRX := Lib.hid hrx
      have HRUU := Lib.hid hruu
      have e0 := cell_of_row _ _ 0 _ _ _ HN.out
      have e1 := cell_of_row _ _ 1 _ _ _ HN.out
      have e2 := cell_of_row _ _ 2 _ _ _ HN.out
      have e3 := cell_of_row _ _ 3 _ _ _ HN.out
      simp only [List.getElem?_toArray, List.getElem?_cons_zero, List.getElem?_cons_succ] at e0 e1 e2 e3
      clear hrx hruu hbb hfit
      go_upto_region 10 with fail
      refine wp_region_held_drew (S := (fun w' => w'.cell? ⟨B + 2, 0, none⟩ = some (.int .i64 (k : Int)) ∧ w'.cell? ⟨B + 2, 1, none⟩ = some (.string g) ∧ w'.cell? ⟨B + 2, 2, none⟩ = some (.string (mkB O)) ∧ w'.cell? ⟨B + 2, 3, none⟩ = some (.string (mkB N)))) (by kernel_rfl) ⟨e0, e1, e2, e3⟩ (fun hHeld => ?_)
      refine wpAnyH_take (i := 0) (v := ?vt0) rfl (by kernel_rfl) (by kernel_rfl) (by kernel_rfl) (fun _ _ _ h => h) (Or.inl ⟨by rfl, ?yt0⟩) (by assumption) ?rt0
      case yt0 =>
        intro w hSw
        (try dsimp only at hSw)
        go_simp
        first | done | with_reducible rfl
      try simp only [Act.put, List.getElem_toArray, List.getElem_cons_zero, List.setIfInBounds_toArray, List.set_cons_zero, List.set_cons_succ]
      refine wpAnyH_take (i := 1) (v := ?vt1) rfl (by kernel_rfl) (by kernel_rfl) (by kernel_rfl) (fun _ _ _ h => h) (Or.inl ⟨by rfl, ?yt1⟩) (by assumption) ?rt1
      case yt1 =>
        intro w hSw
        (try dsimp only at hSw)
        go_simp
        first | done | with_reducible rfl
      try simp only [Act.put, List.getElem_toArray, List.getElem_cons_zero, List.getElem_cons_succ, List.setIfInBounds_toArray, List.set_cons_zero, List.set_cons_succ]
      refine wpAnyH_ready (rs := [2]) (by kernel_rfl) (by simp) ?_
      refine AllReadyH.cons rfl (fun K hK => ?_) AllReadyH.nil
      go_simp
      refine HRT.out.mono ?_
      rintro e w6 ⟨rfl, hb6'⟩
      have hb6 : Below wr.heap.size wr w6 := (Below.refl _ wr).drew.trans hb6'
      have HB6 := Lib.hid hb6
      have hn6 := (hb6.block (B + 2) (by omega)).trans HN.out
      have hz6 := (hb6.block (B + 1) (by omega)).trans HZ.out
      have y0 := cell_of_row _ _ 0 _ _ _ hn6
      have y1 := cell_of_row _ _ 1 _ _ _ hn6
      have y2 := cell_of_row _ _ 2 _ _ _ hn6
      have y3 := cell_of_row _ _ 3 _ _ _ hn6
      have HN6 := Lib.hid hn6
      have HZ6 := Lib.hid hz6
      clear hn6 hz6 hb6 hb6'
      go_wp2_with fail
      refine hK.out _ _ ⟨y0, y1, y2, y3⟩ (fun hHeld => ?_)
      clear hK K
      try simp only [Act.put, List.getElem_toArray, List.getElem_cons_zero, List.getElem_cons_succ, List.setIfInBounds_toArray, List.set_cons_zero, List.set_cons_succ]
      refine wpAnyH_ready (rs := [3]) (by kernel_rfl) (by simp) ?_
      refine AllReadyH.cons rfl (fun K hK => ?_) AllReadyH.nil
      refine wp_store_mid 35 (.tmp 6) (.tmp 40) rfl (B + 1) 0 #[.int .i64 (k : Int), .string g, .string (mkB O), .string (mkB N)] rfl rfl (fun j hj => there4 HZ6.out hj) (by kernel_rfl) (by simp [Value.oneCell']) ?_
      have hst := store4 HZ6.out (.int .i64 (k : Int)) (.string g) (.string (mkB O)) (.string (mkB N))
      obtain ⟨w7, hw7⟩ : ∃ w7, w6.setCells (B + 1) 0 [.int .i64 (k : Int), .string g, .string (mkB O), .string (mkB N)] = w7 := ⟨_, rfl⟩
      rw [show (#[Value.int .i64 (k : Int), .string g, .string (mkB O), .string (mkB N)] : Array Value).toList = [.int .i64 (k : Int), .string g, .string (mkB O), .string (mkB N)] from rfl, hw7]
      rw [hw7] at hst
      have HST7 := Lib.hid hst.1
      have HO7 := Lib.hid hst.2
      have hn7 := (hst.2 (B + 2) (by omega)).trans HN6.out
      have z0 := cell_of_row _ _ 0 _ _ _ hn7
      have z1 := cell_of_row _ _ 1 _ _ _ hn7
      have z2 := cell_of_row _ _ 2 _ _ _ hn7
      have z3 := cell_of_row _ _ 3 _ _ _ hn7
      have hbz : Below B w6 w7 := by rw [← hw7]; exact store4_below _ _ _ _ _ (by omega)
      have HBZ := Lib.hid hbz
      clear hst hw7 hn7 hbz
      refine hK.out _ _ ⟨z0, z1, z2, z3⟩ (fun hHeld => ?_)
      clear hK K
      try simp only [Act.put, List.getElem_toArray, List.getElem_cons_zero, List.getElem_cons_succ]
      refine wpAnyH_take (i := 4) (v := ?vt4) rfl (by kernel_rfl) (by kernel_rfl) (by kernel_rfl) (fun _ _ _ h => h) (Or.inl ⟨by rfl, ?yt4⟩) (by assumption) ?rt4
      case yt4 =>
        intro w hSw
        (try dsimp only at hSw)
        go_simp
        first | done | with_reducible rfl
      try simp only [Act.put, List.getElem_toArray, List.getElem_cons_zero, List.getElem_cons_succ, List.setIfInBounds_toArray, List.set_cons_zero, List.set_cons_succ]
      refine wpAnyH_done (by kernel_rfl) ?_ _
      go_wp2_with fail
      have hfin : ReadPost RR w (.returned (.tuple #[.agg #[.int .i64 (k : Int), .string g, .string (mkB O), .string (mkB N)], .bool bb])) w7 := ⟨⟨k, g, mkB O, mkB N⟩, bb, rfl, by rw [HRX.out, HRUU.out], (by rw [HB.out]; exact (hbr.trans (HB6.out.mono (by omega))).trans HBZ.out)⟩
      exact bodyPost_ret (results_ct2 rfl _ _ _ _ _ (0, 0) _ (.bool bb) rfl rfl HST7.out Tryd.underlying35 rfl (by kernel_rfl)) rfl hfin
end Go.Proofs.YthkbpophckjdnaaDoor
