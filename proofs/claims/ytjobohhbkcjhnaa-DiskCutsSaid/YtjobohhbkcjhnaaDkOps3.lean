/-
  What is done to a disk: Arm, Restart; Read, Lasting; New.
-/
import Derived.Test.YtjobohhbkcjhnaaDkOps
namespace Go.Proofs.Ytjobohhbkcjhnaa
open Go Go.RowKit Go.Shelf Go.Proofs

theorem head_set {w : World} {g room : Nat} {pw : Option Nat} {dead : Bool} {X : Value} {u : Int} (h1 : w.heap[g]? = some (.cells #[.bool pw.isSome, .int .i64 u, .bool dead, X, .int .i64 (room : Int)] 62 (0, 0))) (k : Nat) :
    ((w.setCell ⟨g, 0, none⟩ (.bool true)).setCell ⟨g, 1, none⟩ (.int .i64 (k : Int))).heap[g]? = some (.cells #[.bool true, .int .i64 (k : Int), .bool dead, X, .int .i64 (room : Int)] 62 (0, 0)) := by
  have e1 := heap_setCell_same w g 0 _ _ (.bool true) h1
  exact heap_setCell_same _ g 1 _ _ (.int .i64 (k : Int)) e1
set_option maxHeartbeats 4000000 in
theorem arm_any (base : Nat) (who : Nat → Nat) (w : World) (T g : Nat) (d : DDk) (n : Nat) (k : Int) (hT : 0 < T) (h : DiskAt base who w T g d) (_hd : d.fits n) (hf : Fresh who w) :
    Calls Try.prog 27 #[.pointer (some ⟨g, 0, none⟩), .int .i64 k] w fun e w' => e = .returned (.tuple #[]) ∧ DkW base who w T g (d.arm k) w' := by
  have HH := Lib.hid h
  have HFR := Lib.hid hf
  obtain ⟨ga, cap, L, h1, h2, h3, h4, h5, h6, h7⟩ := h
  have hA : Calls Try.prog 46 #[.pointer (some ⟨g, 0, none⟩), .int .i64 k] w fun e w' => e = .returned (.tuple #[]) ∧ DkW base who w T g (d.arm k) w' := by
    obtain ⟨hlt, c0, c2, _, _, _, ⟨u', c1⟩, f⟩ := h1.cells
    cases hdd : d.dead with
    | true =>
      have HD := Lib.hid (show d.arm k = d by unfold DDk.arm; rw [if_pos hdd])
      rw [HD.out]
      rw [hdd] at c2
      clear h1 h2 h3 h4 h5 h6 h7 c0 c1 hf hdd
      go_enter Try.func46, Try.ntmps46
      go_wp2_with fail
      go_returns
      exact ⟨rfl, DkW.refl HH.out HFR.out⟩
    | false =>
      obtain ⟨u, hu, hu2⟩ := h1
      obtain ⟨q, hq⟩ : ∃ q : Nat, min (max k 0) 1000000000 = (q : Int) := ⟨(min (max k 0) 1000000000).toNat, by omega⟩
      have hq2 : (min (max k 0) 1000000000).toNat = q := by omega
      have HF := Lib.hid (show DkW base who w T g (d.arm k) ((w.setCell ⟨g, 0, none⟩ (.bool true)).setCell ⟨g, 1, none⟩ (.int .i64 (q : Int))) from by
        have ho := (OnlyB.set w g 0 (.bool true)).trans (OnlyB.set _ g 1 (.int .i64 (q : Int)))
        have e := head_set hu q
        rw [show d.arm k = { d with pw := some q } by unfold DDk.arm; rw [hdd, hq2]; rfl]
        exact ⟨who, ⟨ga, cap, L, ⟨q, e, fun k' e' => (by cases e'; rfl)⟩, h2, h3, OnlyB.areas h4 ho hT h2, h5, h6, fun hh => by rw [show d.dead = true from hh] at hdd; cases hdd⟩, ho.turn h2, Fresh.only hf ho⟩)
      rw [hdd] at c2
      have f0 := f 0
      have f1 := f 1
      have e1 := heap_setCell_same w g 0 _ _ (.bool true) hu
      have f1' : (w.setCell ⟨g, 0, none⟩ (.bool true)).frozen? ⟨g, 1, none⟩ = false := frozen_of_row _ g 1 _ _ e1
      have c1' : (w.setCell ⟨g, 0, none⟩ (.bool true)).cell? ⟨g, 1, none⟩ = some (.int .i64 u) := cell_of_row _ g 1 _ _ _ e1
      have HQ := Lib.hid hq
      clear hu hu2 h2 h3 h4 h5 h6 h7 hf hdd hq2 e1 f
      go_enter Try.func46, Try.ntmps46
      go_wp2_with fail
      go_returns
      exact ⟨rfl, HF.out⟩
  have HA := Lib.hid hA
  clear h1 h2 h3 h4 h5 h6 h7 hf hA
  go_enter Try.func27, Try.ntmps27
  go_wp2_with fail
  refine HA.out.mono ?_
  rintro e w' ⟨rfl, hw⟩
  have HW := Lib.hid hw
  clear hw
  go_wp2_with fail
  go_returns
  exact ⟨rfl, HW.out⟩

theorem has_len {d : DDk} {a : Int} (h : d.has a = true) : ∃ i : Nat, a = i ∧ i < d.as.length := by
  unfold DDk.has at h
  simp only [Bool.and_eq_true, decide_eq_true_eq] at h
  exact ⟨a.toNat, by omega, by omega⟩
set_option maxHeartbeats 4000000 in
theorem read_any (base : Nat) (who : Nat → Nat) (w : World) (T g : Nat) (d : DDk) (n : Nat) (a : Int) (h : DiskAt base who w T g d) (hd : d.fits n) (hn : n ≤ 1000000) :
    Calls Try.prog 20 #[.pointer (some ⟨g, 0, none⟩), .int .i64 a] w fun e w' => ∃ v, e = .returned v ∧ OB w.heap.size w' v (d.readL a) ∧ Below w.heap.size w w' := by
  have HHAS := Lib.hid (has_any base who w T g d a n h hd)
  obtain ⟨ga, cap, L, h1, h2, h3, h4, h5, h6, h7⟩ := h
  cases hh : d.has a with
  | false =>
    rw [hh] at HHAS
    have HE := Lib.hid (show d.readL a = [] by unfold DDk.readL; rw [if_neg (by rw [hh]; decide)])
    rw [HE.out]
    clear h1 h2 h3 h4 h5 h6 h7 hd hh
    go_enter Try.func20, Try.ntmps20
    go_wp2_with fail
    refine HHAS.out.mono ?_
    rintro e w' ⟨rfl, hw⟩
    have hw := hw.symm
    subst hw
    go_wp2_with fail
    go_ret
    exact ⟨_, rfl, OB.nil _ _, Below.refl _ _⟩
  | true =>
    rw [hh] at HHAS
    obtain ⟨i, rfl, hi⟩ := has_len hh
    obtain ⟨hlt, _, _, c3, _⟩ := h1.cells
    have hil : i < L.length := by rw [h5, List.length_map] at hi; exact hi
    obtain ⟨x, hx⟩ : ∃ x, L[i]? = some x := ⟨_, List.getElem?_eq_getElem hil⟩
    have hxo := h6 x (List.mem_of_getElem? hx)
    have hfx := fits_at hd (ar_at h5 hx)
    have hcl : x.c.length ≤ n := by rw [hxo.1]; have := x.ar.now_length; omega
    have HE := Lib.hid (show d.readL (i : Int) = x.c by unfold DDk.readL; rw [if_pos hh, Int.toNat_natCast, ar_at h5 hx]; exact hxo.1.symm)
    rw [HE.out]
    obtain ⟨A, c, hcv, hsl, _⟩ := OB.sl (h4.each i x hx).c
    have hcc := (h4.cells hx).1
    rw [hcv, Nat.mul_comm] at hcc
    have HT := Lib.hid (tell_any A x.c.length c x.c w hsl rfl (by omega))
    generalize x.c.length = xl at *
    clear h1 h2 h3 h4 h5 h6 h7 hd hh hsl hcv hxo hx hfx
    go_enter Try.func20, Try.ntmps20
    go_wp2_with fail
    refine HHAS.out.mono ?_
    rintro e w' ⟨rfl, hw⟩
    have hw := hw.symm
    subst hw
    go_wp2_with fail
    refine HT.out.mono ?_
    rintro e w' ⟨v, rfl, ho, hb⟩
    go_wp2_with fail
    go_ret
    exact ⟨v, rfl, ho, hb⟩
set_option maxHeartbeats 4000000 in
theorem lasting_any (base : Nat) (who : Nat → Nat) (w : World) (T g : Nat) (d : DDk) (n : Nat) (a : Int) (h : DiskAt base who w T g d) (hd : d.fits n) (hn : n ≤ 1000000) :
    Calls Try.prog 22 #[.pointer (some ⟨g, 0, none⟩), .int .i64 a] w fun e w' => ∃ v, e = .returned v ∧ OB w.heap.size w' v (d.lastL a) ∧ Below w.heap.size w w' := by
  have HHAS := Lib.hid (has_any base who w T g d a n h hd)
  obtain ⟨ga, cap, L, h1, h2, h3, h4, h5, h6, h7⟩ := h
  cases hh : d.has a with
  | false =>
    rw [hh] at HHAS
    have HE := Lib.hid (show d.lastL a = [] by unfold DDk.lastL; rw [if_neg (by rw [hh]; decide)])
    rw [HE.out]
    clear h1 h2 h3 h4 h5 h6 h7 hd hh
    go_enter Try.func22, Try.ntmps22
    go_wp2_with fail
    refine HHAS.out.mono ?_
    rintro e w' ⟨rfl, hw⟩
    have hw := hw.symm
    subst hw
    go_wp2_with fail
    go_ret
    exact ⟨_, rfl, OB.nil _ _, Below.refl _ _⟩
  | true =>
    rw [hh] at HHAS
    obtain ⟨i, rfl, hi⟩ := has_len hh
    obtain ⟨hlt, _, _, c3, _⟩ := h1.cells
    have hil : i < L.length := by rw [h5, List.length_map] at hi; exact hi
    obtain ⟨x, hx⟩ : ∃ x, L[i]? = some x := ⟨_, List.getElem?_eq_getElem hil⟩
    have hfx := fits_at hd (ar_at h5 hx)
    have hcl : x.l.length ≤ n := by have e : x.ar.l = x.l := rfl; rw [e] at hfx; omega
    have HE := Lib.hid (show d.lastL (i : Int) = x.l by unfold DDk.lastL; rw [if_pos hh, Int.toNat_natCast, ar_at h5 hx]; rfl)
    rw [HE.out]
    obtain ⟨A, c, hcv, hsl, _⟩ := OB.sl (h4.each i x hx).l
    have hcc := (h4.cells hx).2.1
    rw [hcv, Nat.mul_comm] at hcc
    have HT := Lib.hid (tell_any A x.l.length c x.l w hsl rfl (by omega))
    generalize x.l.length = xl at *
    clear h1 h2 h3 h4 h5 h6 h7 hd hh hsl hcv hx hfx
    go_enter Try.func22, Try.ntmps22
    go_wp2_with fail
    refine HHAS.out.mono ?_
    rintro e w' ⟨rfl, hw⟩
    have hw := hw.symm
    subst hw
    go_wp2_with fail
    refine HT.out.mono ?_
    rintro e w' ⟨v, rfl, ho, hb⟩
    go_wp2_with fail
    go_ret
    exact ⟨v, rfl, ho, hb⟩

theorem area_info : (Try.prog.info? 70).map (fun i => (i.zero, i.size, i.bytes)) = some (some (.agg #[.slice none 0 0, .slice none 0 0, .slice none 0 0]), 3, 72) := by kernel_rfl
def AX.empty : AX := ⟨.slice none 0 0, .slice none 0 0, .slice none 0 0, [], [], []⟩
theorem empty_cells (n : Nat) : (List.replicate n AX.empty).flatMap AX.cs = List.replicate (n * 3) (.slice none 0 0) := by
  induction n with
  | zero => rfl
  | succ n ih => rw [List.replicate_succ, List.flatMap_cons, ih, show (n + 1) * 3 = n * 3 + 1 + 1 + 1 from by omega, List.replicate_succ, List.replicate_succ, List.replicate_succ]; rfl
theorem made_cells (n : Nat) : (madeCells (Value.agg #[.slice none 0 0, .slice none 0 0, .slice none 0 0]).cells (n * 3)).toList = List.replicate (n * 3) (.slice none 0 0) := by
  apply List.ext_getElem?
  intro j
  by_cases hj : j < n * 3
  · have h3 : j % 3 < 3 := Nat.mod_lt _ (by omega)
    simp [madeCells, hj, Value.cells]
    generalize j % 3 = q at *
    match q, h3 with
    | 0, _ => rfl
    | 1, _ => rfl
    | 2, _ => rfl
  · simp [madeCells, hj]
set_option maxRecDepth 100000 in
set_option maxHeartbeats 4000000 in
theorem new_any (who : Nat → Nat) (w : World) (T : Nat) (a r : Int) (hf : Fresh who w) :
    Calls Try.prog 12 #[.int .i64 a, .int .i64 r] w fun e w' => ∃ g, e = .returned (.pointer (some ⟨g, 0, none⟩)) ∧ (DDk.new a r).sane ∧ ∃ who', DiskAt w.heap.size who' w' T g (DDk.new a r) ∧ Turn T (T + 26) who w who' w' ∧ Fresh who' w' ∧ w.heap.size ≤ g := by
  obtain ⟨n, hn⟩ : ∃ n : Nat, min (max a 0) 8 = (n : Int) := ⟨(min (max a 0) 8).toNat, by omega⟩
  obtain ⟨m, hm⟩ : ∃ m : Nat, min (max r 0) 4194304 = (m : Int) := ⟨(min (max r 0) 4194304).toNat, by omega⟩
  have hn8 : n ≤ 8 := by omega
  obtain ⟨i0, hi, hz0, hz1, hz2⟩ := info_parts area_info
  obtain ⟨w1, hr, ho, hg⟩ := run_make_full (P := Try.prog) w w.heap.size 58 70 i0 _ 3 Try.underlying58 hi hz0 hz1 .i64 .i64 n (by rw [hz2]; omega) (by unfold maxLen; omega) (Nat.le_refl _)
  rw [made_cells] at ho
  have HN := Lib.hid hn
  have HM := Lib.hid hm
  have HFIN := Lib.hid (show ∃ who', DiskAt w.heap.size who' (w1.alloc (.cells #[.bool false, .int .i64 0, .bool false, .slice (some ⟨w.heap.size, 0, none⟩) n n, .int .i64 (m : Int)] 62)) T w1.heap.size (DDk.new a r) ∧ Turn T (T + 26) who w who' (w1.alloc (.cells #[.bool false, .int .i64 0, .bool false, .slice (some ⟨w.heap.size, 0, none⟩) n n, .int .i64 (m : Int)] 62)) ∧ Fresh who' (w1.alloc (.cells #[.bool false, .int .i64 0, .bool false, .slice (some ⟨w.heap.size, 0, none⟩) n n, .int .i64 (m : Int)] 62)) ∧ w.heap.size ≤ w1.heap.size from by
    have hsz := hg.size
    have hgl : w.heap.size < w1.heap.size := (row_blk ho rfl).2.1
    have hb1 : Below w.heap.size w w1 := (Below.refl _ _).grown hg (Nat.le_refl _) (fun k e => by cases e)
    obtain ⟨w2, hw2⟩ : ∃ w2, w1.alloc (.cells #[.bool false, .int .i64 0, .bool false, .slice (some ⟨w.heap.size, 0, none⟩) n n, .int .i64 (m : Int)] 62) = w2 := ⟨_, rfl⟩
    have hb2 : Below w1.heap.size w1 w2 := by rw [← hw2]; exact (Below.refl _ _).alloc (Nat.le_refl _) _
    have hh : w2.heap[w1.heap.size]? = some (.cells #[.bool false, .int .i64 0, .bool false, .slice (some ⟨w.heap.size, 0, none⟩) n n, .int .i64 (m : Int)] 62 (0, 0)) := by rw [← hw2]; exact heap_alloc_new w1 _
    have hs2 : w2.heap.size = w1.heap.size + 1 := by rw [← hw2]; simp
    rw [hw2]
    have hb02 : Below w.heap.size w w2 := hb1.trans (hb2.mono hsz)
    refine ⟨fun b => if b = w1.heap.size then T else if b = w.heap.size then T + 1 else who b, ⟨w.heap.size, n, List.replicate n AX.empty, ⟨0, ?_, fun k e => by cases e⟩, if_pos rfl, hsz, ⟨?_, ?_, fun i x hx => ?_⟩, ?_, fun x hx => ?_, fun e => by cases e⟩, ⟨hb02.os, hb02.tape, hb02.output, hb02.size, fun b hb _ => hb02.block b hb, fun b hb => ?_⟩, fun b hb => ?_, hsz⟩
    · rw [List.length_replicate, show (DDk.new a r).room = m by unfold DDk.new; show (min (max r 0) 4194304).toNat = m; rw [hm]; rfl]
      exact hh
    · rw [List.length_replicate, empty_cells]
      exact row_keep ho fun g e hl => hb2.block g hl
    · show (if w.heap.size = w1.heap.size then T else if w.heap.size = w.heap.size then T + 1 else who w.heap.size) = T + 1
      rw [if_neg (by omega), if_pos rfl]
    · have := List.mem_of_getElem? hx
      obtain rfl := (List.mem_replicate.1 this).2
      exact ⟨OB.nil _ _, OB.nil _ _, World.ownsRow_nil _ _ _ _, (fun s hs => by cases hs), fun g e => (by cases e), fun g e => (by cases e), fun g e => (by cases e)⟩
    · show List.replicate (min (max a 0) 8).toNat _ = _
      rw [hn, Int.toNat_natCast, List.map_replicate]; rfl
    · obtain rfl := (List.mem_replicate.1 hx).2
      exact ⟨rfl, trivial, Nat.le_refl _⟩
    · show (if b = w1.heap.size then T else if b = w.heap.size then T + 1 else who b) = who b
      rw [if_neg (by omega), if_neg (by omega)]
    · show (if b = w1.heap.size then T else if b = w.heap.size then T + 1 else who b) = 0
      rw [if_neg (by omega), if_neg (by omega)]
      exact hf b (by omega))
  have HR := Lib.hid hr
  have q1 : (n : Int) ≤ 9223372036854775807 := by omega
  clear hr ho hg hi hz0 hz1 hz2 hf
  go_enter Try.func12, Try.ntmps12
  go_wp2_with fail
  rw [HR.out]
  go_wp2_with fail
  go_ret
  obtain ⟨who', k1, k2, k3, k4⟩ := HFIN.out
  exact ⟨_, rfl, (fun e => by cases e), who', k1, k2, k3, k4⟩
end Go.Proofs.Ytjobohhbkcjhnaa
