/-
  slices.DeleteFunc on a row of files of the call's own; tree.drop. · tree.drop on a row of files of the call's own; tree.own.
-/
import Derived.Test.YtffhfllikamccaaGreatDoorTOwn
import Derived.Test.YtffhfllikamccaaGreatDoorTDelta
namespace Go.Proofs.YtffhfllikamccaaGreatDoor
open Go Go.RowKit Go.Shelf Go.Proofs

def keepX (l : List FX) (s : ByteArray) : List FX := l.filter fun x => !(x.p.toList == s.toList)
theorem keepX_all {l : List FX} {s : ByteArray} (h : ∀ y ∈ l, (y.p.toList == s.toList) = false) : keepX l s = l := by
  unfold keepX
  rw [List.filter_eq_self]
  intro y hy; rw [h y hy]; rfl
theorem keepX_snoc (l : List FX) (s : ByteArray) (k : Nat) (x : FX) (hx : l[k]? = some x) : keepX (l.take (k + 1)) s = if (x.p.toList == s.toList) = true then keepX (l.take k) s else keepX (l.take k) s ++ [x] := by
  unfold keepX
  rw [List.take_add_one, hx, List.filter_append]
  cases e : (x.p.toList == s.toList) with
  | true => simp only [Option.toList, List.filter_cons, e, List.filter_nil]; simp
  | false => simp only [Option.toList, List.filter_cons, e, List.filter_nil]; simp
theorem keepX_fls (l : List FX) (s : ByteArray) : flsX (keepX l s) = dropT (flsX l) s.data.toList := by
  unfold keepX flsX dropT
  rw [List.filter_map]
  congr 1
  refine List.filter_congr fun x _ => ?_
  simp only [Function.comp, FX.fl, ByteArray.toList_eq]

theorem pred_drop (l : List FX) (s : ByteArray) (B : Nat) (w : World) (hB : Boxed w B 9 (.string s)) : PredF 93 #[.pointer (some ⟨B, 0, none⟩)] (fun x => x.p.toList == s.toList) l w :=
  fun W x _ hb => drop1_any x s B W (Nat.lt_of_lt_of_le hB.lt hb.size) ((hb.cell (p := ⟨B, 0, none⟩) hB.lt).trans hB.cell)

/-- What is known in the loop: i are kept of the first j; behind j all is as it was. -/
structure DelInv (base : Nat) (l : List FX) (s : ByteArray) (w : World) (g n cap B : Nat) (i j : Nat) (wr : World) (m : List FX) : Prop where
  own : FilesOwn base wr (.slice (some ⟨g, 0, none⟩) n cap) m
  len : m.length = n
  kept : m.take i = keepX (l.take j) s
  rest : m.drop j = l.drop j
  grown : w.grownBy wr (some g)
  box : Boxed wr B 9 (.string s)

theorem take_set_succ {α : Type} (m : List α) (i : Nat) (x : α) (hi : i < m.length) : (m.set i x).take (i + 1) = m.take i ++ [x] := by
  rw [List.take_succ_eq_append_getElem (by rw [List.length_set]; exact hi), List.take_set_of_le (Nat.le_refl i)]
  simp
theorem DelInv.next {base : Nat} {l : List FX} {s : ByteArray} {w : World} {g cap B i j : Nat} {wr w2 : World} {m : List FX} {x : FX} (h : DelInv base l s w g l.length cap B i j wr m) (hml : m.length = l.length) (hb : Below wr.heap.size wr w2) (hij : i < j) (hj : j < l.length) (hne : B ≠ g) (_hx : l[j]? = some x) (hk : keepX (l.take (j + 1)) s = keepX (l.take j) s ++ [x]) :
    DelInv base l s w g l.length cap B (i + 1) (j + 1) ((w2.setCell ⟨g, i * 2, none⟩ (.string x.p)).setCell ⟨g, i * 2 + 1, none⟩ (.slice x.A x.b.length x.c)) (m.set i x) where
  own := (h.own.below hb).store hml.symm i x
  len := by rw [List.length_set]; exact hml
  kept := by rw [take_set_succ m i x (by omega), h.kept, hk]
  rest := by
    rw [List.drop_set_of_lt (by omega), ← List.drop_drop, h.rest, List.drop_drop]
  grown := grown_trans2 (grown_trans2 h.grown (grownN hb none) (.inr (fun _ e => by cases e))) grown_two (.inl rfl)
  box := by
    have h1 : Boxed w2 B 9 (.string s) := (hb.block _ h.box.lt).trans h.box
    exact (Below.heap_setCell _ _ _ _ hne).trans ((Below.heap_setCell _ _ _ _ hne).trans h1)

set_option maxRecDepth 100000 in
set_option maxHeartbeats 4000000 in
theorem delete_some (base : Nat) (l : List FX) (g n cap : Nat) (s : ByteArray) (B : Nat) (w : World) (h : FilesOwn base w (.slice (some ⟨g, 0, none⟩) n cap) l) (hn : n = l.length) (hl : l.length ≤ 100000) (hc : n ≤ cap) (hcm : cap ≤ 9223372036854775807) (hB : Boxed w B 9 (.string s)) (hne : B ≠ g) :
    Calls Tryz.prog 92 #[.slice (some ⟨g, 0, none⟩) n cap, .func (.func 93) #[] #[.pointer (some ⟨B, 0, none⟩)]] w fun e w' =>
      ∃ m : Nat, e = .returned (.slice (some ⟨g, 0, none⟩) m cap) ∧ FilesOwn base w' (.slice (some ⟨g, 0, none⟩) m cap) (keepX l s) ∧ m = (keepX l s).length ∧ w.grownBy w' (some g) := by
  subst hn
  have HI := Lib.hid (indexF_any 93 #[.pointer (some ⟨B, 0, none⟩)] (fun x => x.p.toList == s.toList) l (some ⟨g, 0, none⟩) cap w (enters_of (P := Tryz.prog) Tryz.func93 (by kernel_rfl) rfl) (pred_drop l s B w hB) (by unfold maxLen; omega) (fun _ => ⟨g, 0, rfl, h.rowF⟩))
  rcases idxF_cases (fun x : FX => x.p.toList == s.toList) l with ⟨h1, h2⟩ | ⟨k, x, h1, h2, h3, h4⟩
  · have hk := keepX_all h2
    have H1 := Lib.hid h1; clear h1 h2
    have HK := Lib.hid hk; clear hk
    have HF := Lib.hid h; clear h
    have HBX := Lib.hid hB; clear hB
    go_enter Tryz.func92, Tryz.ntmps92
    go_wp2_with fail
    refine HI.out.mono ?_
    rintro e w1 ⟨rfl, hb1⟩
    rw [H1.out]
    have HB1 := Lib.hid hb1; clear hb1
    go_wp2_with fail
    go_ret
    refine ⟨l.length, rfl, ?_, ?_, grownN HB1.out _⟩
    · rw [HK.out]; exact HF.out.below HB1.out
    · rw [HK.out]
  · have hkl := (List.getElem?_eq_some_iff.1 h2).1
    have hkt : keepX (l.take (k + 1)) s = l.take k := by
      rw [keepX_snoc l s k x h2, if_pos h3]
      exact keepX_all fun y hy => by
        obtain ⟨j, hj⟩ := List.mem_iff_getElem?.1 hy
        rw [List.getElem?_take] at hj
        split at hj
        · exact h4 j y (by assumption) hj
        · cases hj
    have H1 := Lib.hid h1; clear h1 h2 h3 h4
    have HKT := Lib.hid hkt; clear hkt
    have HF := Lib.hid h; clear h
    have HBX := Lib.hid hB; clear hB
    have g1 : (((k : Nat) : Int) == -1) = false := by rw [beq_eq_false_iff_ne]; omega
    go_enter Tryz.func92, Tryz.ntmps92
    go_wp2_with fail
    refine HI.out.mono ?_
    rintro e w1 ⟨rfl, hb1⟩
    rw [H1.out]
    have HB1 := Lib.hid hb1; clear hb1
    go_wp2_with fail
    go_loopw [5, 6] (fun s5 s6 wr => ∃ (i j : Nat) (m : List FX), i < j ∧ j ≤ l.length ∧ s5 = .int .i64 i ∧ s6 = .int .i64 j ∧ Hid (DelInv base l s w g l.length cap B i j wr m)) (fun _ s6 _ => l.length - (intOf s6).toNat)
    case atStart => exact ⟨k, k + 1, l, by omega, by omega, rfl, by go_num, HF.out.below HB1.out, rfl, HKT.out.symm, rfl, grownN HB1.out _, (HB1.out.block _ HBX.out.lt).trans HBX.out⟩
    case round =>
      obtain ⟨i, j, m, hij, hj, rfl, rfl, HD⟩ := hrel
      by_cases hlt : j < l.length
      · have hml := HD.out.len
        obtain ⟨x, hx⟩ : ∃ x, l[j]? = some x := ⟨_, List.getElem?_eq_getElem hlt⟩
        have hmx : m[j]? = some x := by rw [← List.head?_drop, HD.out.rest, List.head?_drop, hx]
        obtain ⟨y, hy⟩ : ∃ y, m[i]? = some y := ⟨_, List.getElem?_eq_getElem (by omega)⟩
        have hrow := HD.out.own.rowF
        obtain ⟨c1, c2⟩ := hrow j x hmx
        have hgl : g < wr.heap.size := World.block_lt_of_cell? wr (a := ⟨g, 0 + j * 2, none⟩) c1
        obtain ⟨d1, d2⟩ := hrow i y hy
        clear hrow
        simp only [Nat.zero_add] at c1 c2 d1 d2
        have HML := Lib.hid hml; clear hml
        have HX := Lib.hid hx; clear hx
        have HMX := Lib.hid hmx; clear hmx
        have hB1 : Below wr.heap.size wr (wr.alloc (.cells #[.string x.p, .slice x.A x.b.length x.c] 65)) := (Below.refl _ _).alloc (Nat.le_refl _) _
        have hC := drop1_any x s B (wr.alloc (.cells #[.string x.p, .slice x.A x.b.length x.c] 65)) (Nat.lt_of_lt_of_le HD.out.box.lt hB1.size) ((hB1.cell (p := ⟨B, 0, none⟩) HD.out.box.lt).trans HD.out.box.cell)
        have HC := Lib.hid hC; clear hC
        cases hq : (x.p.toList == s.toList) with
        | true =>
          have hkp := keepX_snoc l s j x HX.out
          rw [if_pos hq] at hkp
          have HKP := Lib.hid hkp; clear hkp
          have HQ := Lib.hid hq; clear hq
          go_wp2_with fail
          refine HC.out.mono ?_
          rintro e w2 ⟨rfl, hb2⟩
          rw [HQ.out]
          have hb3 := hB1.trans (hb2.mono hB1.size)
          have e1 : w2.cell? ⟨wr.heap.size, 0, none⟩ = some (.string x.p) := (hb2.cell (p := ⟨wr.heap.size, 0, none⟩) (by simp)).trans (cell_of_row _ _ 0 _ _ _ (heap_alloc_new wr _))
          have HB3 := Lib.hid hb3; clear hb3 hb2
          go_wp2_with fail
          go_roundw
          case rel => exact ⟨i, j + 1, m, by omega, by omega, rfl, by go_num, HD.out.own.below HB3.out, HML.out, HD.out.kept.trans HKP.out.symm, by rw [← List.drop_drop, HD.out.rest, List.drop_drop], grown_trans2 HD.out.grown (grownN HB3.out none) (.inr (fun _ e => by cases e)), (HB3.out.block _ HD.out.box.lt).trans HD.out.box⟩
          case measure => simp [intOf]; omega
        | false =>
          have hkp := keepX_snoc l s j x HX.out
          rw [if_neg (by rw [hq]; simp)] at hkp
          have HKP := Lib.hid hkp; clear hkp
          have HQ := Lib.hid hq; clear hq
          go_wp2_with fail
          refine HC.out.mono ?_
          rintro e w2 ⟨rfl, hb2⟩
          rw [HQ.out]
          have hb3 := hB1.trans (hb2.mono hB1.size)
          have e1 : w2.cell? ⟨wr.heap.size, 0, none⟩ = some (.string x.p) := (hb2.cell (p := ⟨wr.heap.size, 0, none⟩) (by simp)).trans (cell_of_row _ _ 0 _ _ _ (heap_alloc_new wr _))
          have e2 : w2.cell? ⟨wr.heap.size, 1, none⟩ = some (.slice x.A x.b.length x.c) := (hb2.cell (p := ⟨wr.heap.size, 1, none⟩) (by simp)).trans (cell_of_row _ _ 1 _ _ _ (heap_alloc_new wr _))
          have d3 : w2.cell? ⟨g, i * 2, none⟩ = some (.string y.p) := (hb3.cell (p := ⟨g, i * 2, none⟩) hgl).trans d1
          have d4 : w2.cell? ⟨g, i * 2 + 1, none⟩ = some (.slice y.A y.b.length y.c) := (hb3.cell (p := ⟨g, i * 2 + 1, none⟩) hgl).trans d2
          have f3 : w2.frozen? ⟨g, i * 2, none⟩ = false := (hb3.frozen (p := ⟨g, i * 2, none⟩) hgl).trans (HD.out.own.frozen _)
          have f4 : w2.frozen? ⟨g, i * 2 + 1, none⟩ = false := (hb3.frozen (p := ⟨g, i * 2 + 1, none⟩) hgl).trans (HD.out.own.frozen _)
          have HB3 := Lib.hid hb3; clear hb3 hb2
          have q1 : (i : Int) < (l.length : Int) := by omega
          clear d1 d2 c1 c2
          go_wp2_with fail
          go_roundw
          case rel => exact ⟨i + 1, j + 1, m.set i x, by omega, by omega, by go_num, by go_num, HD.out.next HML.out HB3.out hij hlt hne HX.out HKP.out⟩
          case measure => simp [intOf]; omega
      · obtain rfl : j = l.length := by omega
        have hik : i < l.length := hij
        have hci : ¬ cap = i := by omega
        have hml := HD.out.len
        have hrow := HD.out.own.rowF
        have hclr := run_clear_files wr 0 g (i * 2) (l.length - i) (cap - i) (by omega) (fun q hq => by
          obtain ⟨y, hy⟩ : ∃ y, m[i + q / 2]? = some y := ⟨_, List.getElem?_eq_getElem (by omega)⟩
          obtain ⟨c1, c2⟩ := hrow _ y hy
          rw [Nat.zero_add] at c1 c2
          rcases Nat.mod_two_eq_zero_or_one q with e | e
          · rw [show i * 2 + q = (i + q / 2) * 2 from by omega, c1]; rfl
          · rw [show i * 2 + q = (i + q / 2) * 2 + 1 from by omega, c2]; rfl) (fun q _ => HD.out.own.frozen _)
        have hm2 : m.take i = keepX l s := by rw [HD.out.kept, List.take_of_length_le (Nat.le_refl _)]
        have hfin : FilesOwn base (wr.setCells g (i * 2) (zerosF (l.length - i))) (.slice (some ⟨g, 0, none⟩) i cap) (keepX l s) := by
          have h1 := (HD.out.own.front hml.symm i (by omega)).tail (by rw [List.length_take]; omega) (zerosF (l.length - i))
          rwa [hm2] at h1
        have hlen : i = (keepX l s).length := by rw [← hm2, List.length_take]; omega
        have HFIN := Lib.hid hfin; clear hfin
        have HLEN := Lib.hid hlen; clear hlen
        clear hrow hm2 hml
        go_wp2_with fail
        go_ret
        exact ⟨i, rfl, HFIN.out, HLEN.out, grown_trans2 HD.out.grown (grown_setCells _ _) (.inl rfl)⟩
end Go.Proofs.YtffhfllikamccaaGreatDoor
namespace Go.Proofs.YtffhfllikamccaaGreatDoor
open Go Go.RowKit Go.Shelf Go.Proofs

/-- What is asked of a call that turns a row of the caller's own: the row that it answers; what else lay in w is as it was. -/
def RowPost (base : Nat) (v : Value) (w : World) (l : List FX) (e : Ending) (w' : World) : Prop :=
  ∃ v', e = .returned v' ∧ FilesOwn base w' v' l ∧ w.grownBy w' v.ownBlock ∧ (v'.ownBlock = v.ownBlock ∨ ∀ g, v'.ownBlock = some g → w.heap.size ≤ g)

set_option maxHeartbeats 1000000 in
theorem delete_any (base : Nat) (l : List FX) (v : Value) (s : ByteArray) (B : Nat) (w : World) (h : FilesOwn base w v l) (hl : l.length ≤ 100000) (hB : Boxed w B 9 (.string s)) :
    Calls Tryz.prog 92 #[v, .func (.func 93) #[] #[.pointer (some ⟨B, 0, none⟩)]] w (RowPost base v w (keepX l s)) := by
  rcases h.form with ⟨rfl, rfl⟩ | ⟨g, cap, cur, rfl, _, hh, hc, hcm, _⟩
  · have HI := Lib.hid (indexF_any 93 #[.pointer (some ⟨B, 0, none⟩)] (fun x => x.p.toList == s.toList) [] none 0 w (enters_of (P := Tryz.prog) Tryz.func93 (by kernel_rfl) rfl) (pred_drop [] s B w hB) (by unfold maxLen; omega) (fun h => absurd h (by simp)))
    have hi : idxF (fun x : FX => x.p.toList == s.toList) [] = -1 := rfl
    have H1 := Lib.hid hi; clear hi
    have HF := Lib.hid h; clear h
    have HBX := Lib.hid hB; clear hB
    go_enter Tryz.func92, Tryz.ntmps92
    go_wp2_with fail
    refine HI.out.mono ?_
    rintro e w1 ⟨rfl, hb1⟩
    rw [H1.out]
    have HB1 := Lib.hid hb1; clear hb1
    go_wp2_with fail
    go_ret
    exact ⟨_, rfl, HF.out.below HB1.out, grownN HB1.out _, .inl rfl⟩
  · have hne : B ≠ g := fun e => by
      subst e
      have := hB.symm.trans hh
      cases this
    refine (delete_some base l g l.length cap s B w h rfl hl hc (by unfold maxLen at hcm; omega) hB hne).mono ?_
    rintro e w' ⟨m, rfl, h1, h2, h3⟩
    exact ⟨_, rfl, h1, h3, .inl rfl⟩

set_option maxHeartbeats 1000000 in
theorem drop_any (base : Nat) (l : List FX) (v : Value) (s : ByteArray) (w : World) (h : FilesOwn base w v l) (hl : l.length ≤ 100000) :
    Calls Tryz.prog 73 #[v, .string s] w (RowPost base v w (keepX l s)) := by
  have hb : Below w.heap.size w (w.alloc (.cells #[.string s] 9)) := (Below.refl _ w).alloc (Nat.le_refl _) _
  have H := delete_any base l v s w.heap.size (w.alloc (.cells #[.string s] 9)) (h.below hb) hl (Boxed.new w _ _)
  have HC := Lib.hid H; clear H
  have HB := Lib.hid hb; clear hb
  have HF := Lib.hid h; clear h
  obtain ⟨A, n, c, rfl⟩ : ∃ A n c, v = .slice A n c := by
    rcases HF.out.form with ⟨rfl, _⟩ | ⟨g, cap, cur, rfl, _⟩
    · exact ⟨_, _, _, rfl⟩
    · exact ⟨_, _, _, rfl⟩
  go_enter Tryz.func73, Tryz.ntmps73
  go_wp2_with fail
  refine HC.out.mono ?_
  rintro e w1 ⟨v', rfl, h1, h2, h3⟩
  have H1 := Lib.hid h1; clear h1
  have H2 := Lib.hid h2; clear h2
  have H3 := Lib.hid h3; clear h3
  obtain ⟨A', n', c', rfl⟩ : ∃ A n c, v' = .slice A n c := by
    rcases H1.out.form with ⟨rfl, _⟩ | ⟨g, cap, cur, rfl, _⟩
    · exact ⟨_, _, _, rfl⟩
    · exact ⟨_, _, _, rfl⟩
  go_wp2_with fail
  go_ret
  refine ⟨_, rfl, H1.out, ⟨H2.out.os, H2.out.tape, H2.out.output, Nat.le_trans HB.out.size H2.out.size, fun k hk hne => (H2.out.block k (Nat.lt_of_lt_of_le hk HB.out.size) hne).trans (HB.out.block k hk)⟩, H3.out.imp id fun h g e => Nat.le_trans HB.out.size (h g e)⟩
end Go.Proofs.YtffhfllikamccaaGreatDoor
