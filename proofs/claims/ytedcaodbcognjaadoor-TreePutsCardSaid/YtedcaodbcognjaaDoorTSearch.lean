/-
  The contract of slices.BinarySearchFunc at the files of a tree, as package tree asks it.
-/
import Derived.Test.YtedcaodbcognjaaDoorTFuncs
import Derived.Test.YtedcaodbcognjaaDoorTDirs
import Derived.Test.YtedcaodbcognjaaDoorShelf
namespace Go.Proofs.YtedcaodbcognjaaDoor
open Go Go.RowKit Go.Shelf Go.Proofs

theorem nested1_any (x : FX) (s : ByteArray) (w : World) :
    Calls Tryd.prog 57 #[.agg #[.string x.p, .slice x.A x.b.length x.c], .string s] w fun e w' => e = .returned (.int .i64 (Lib.compareBytes x.p.data.toList s.data.toList)) ∧ Below w.heap.size w w' := by
  go_enter Tryd.func57, Tryd.ntmps57
  go_wp2_with fail
  refine (Tryd.strings_Compare _ _ _).mono ?_
  rintro e w1 ⟨rfl, hw⟩
  have hw := hw.symm; subst hw
  go_wp2_with fail
  go_ret
  exact ⟨rfl, (Below.refl _ w).alloc (Nat.le_refl _) _⟩

theorem rises_at {l : List Fl} (h : l.Pairwise (fun x y => ltB x.1 y.1 = true)) {i j : Nat} {x y : Fl} (hij : i < j) (hx : l[i]? = some x) (hy : l[j]? = some y) : ltB x.1 y.1 = true := by
  obtain ⟨hi, rfl⟩ := List.getElem?_eq_some_iff.1 hx
  obtain ⟨hj, rfl⟩ := List.getElem?_eq_some_iff.1 hy
  exact List.pairwise_iff_getElem.1 h i j hi hj hij

/-- Of l all ahead of i are below s, all from j on are not. -/
def Between (l : List FX) (s : ByteArray) (i j : Nat) : Prop :=
  i ≤ j ∧ j ≤ l.length ∧ (∀ k x, k < i → l[k]? = some x → ltB x.p.data.toList s.data.toList = true) ∧ (∀ k x, j ≤ k → l[k]? = some x → ltB x.p.data.toList s.data.toList = false)

theorem ret_intbool {k : Int} {a b : Bool} (h : a = b) : Ending.returned (.tuple #[.int .i64 k, .bool a]) = .returned (.tuple #[.int .i64 k, .bool b]) := by rw [h]
theorem between_start (l : List FX) (s : ByteArray) : Between l s 0 l.length :=
  ⟨Nat.zero_le _, Nat.le_refl _, fun k x hk => absurd hk (Nat.not_lt_zero _), fun k x hk hx => by
    have := (List.getElem?_eq_some_iff.1 hx).1
    omega⟩
theorem between_hit {l : List FX} {s : ByteArray} {i j m : Nat} {x : FX} (hr : (flsX l).Pairwise (fun x y => ltB x.1 y.1 = true)) (h : Between l s i j) (hm : i ≤ m ∧ m < j) (hx : l[m]? = some x) (hlt : ltB x.p.data.toList s.data.toList = true) : Between l s (m + 1) j := by
  obtain ⟨h1, h2, h3, h4⟩ := h
  refine ⟨by omega, h2, fun k y hk hy => ?_, h4⟩
  by_cases e : k = m
  · subst e; rw [hx] at hy; cases hy; exact hlt
  · exact ltB_trans _ _ _ (rises_at hr (i := k) (j := m) (x := y.fl) (y := x.fl) (by omega) (by rw [flsX_getElem?, hy]; rfl) (by rw [flsX_getElem?, hx]; rfl)) hlt
theorem between_miss {l : List FX} {s : ByteArray} {i j m : Nat} {x : FX} (hr : (flsX l).Pairwise (fun x y => ltB x.1 y.1 = true)) (h : Between l s i j) (hm : i ≤ m ∧ m < j) (hx : l[m]? = some x) (hlt : ltB x.p.data.toList s.data.toList = false) : Between l s i m := by
  obtain ⟨h1, h2, h3, h4⟩ := h
  refine ⟨hm.1, by omega, h3, fun k y hk hy => ?_⟩
  by_cases e : k = m
  · subst e; rw [hx] at hy; cases hy; exact hlt
  · cases e2 : ltB y.p.data.toList s.data.toList with
    | false => rfl
    | true =>
      have h5 := rises_at hr (i := m) (j := k) (x := x.fl) (y := y.fl) (by omega) (by rw [flsX_getElem?, hx]; rfl) (by rw [flsX_getElem?, hy]; rfl)
      have h6 := ltB_trans _ _ _ h5 e2
      exact absurd h6 (by rw [show x.fl.1 = x.p.data.toList from rfl, hlt]; simp)
theorem between_end {l : List FX} {s : ByteArray} {i : Nat} (hr : (flsX l).Pairwise (fun x y => ltB x.1 y.1 = true)) (h : Between l s i i) : hasT (flsX l) s.data.toList = (match l[i]? with
    | some x => x.p.data.toList == s.data.toList
    | none => false) := by
  obtain ⟨_, _, h3, h4⟩ := h
  cases e : l[i]? with
  | none =>
    refine hasT_below fun y hy => ?_
    unfold flsX at hy
    obtain ⟨z, hz, rfl⟩ := List.mem_map.1 hy
    obtain ⟨k, hk⟩ := List.mem_iff_getElem?.1 hz
    have hl := (List.getElem?_eq_some_iff.1 hk).1
    have := List.getElem?_eq_none_iff.1 e
    exact h3 k z (by omega) hk
  | some x =>
    show _ = (x.p.data.toList == s.data.toList)
    rw [Bool.eq_iff_iff, beq_iff_eq]
    constructor
    · intro h
      obtain ⟨y, hy, hys⟩ := (hasT_iff _ _).1 h
      unfold flsX at hy
      obtain ⟨z, hz, rfl⟩ := List.mem_map.1 hy
      obtain ⟨k, hk⟩ := List.mem_iff_getElem?.1 hz
      have hzs : z.p.data.toList = s.data.toList := hys
      rcases Nat.lt_trichotomy k i with hlt | he | hgt
      · have := h3 k z hlt hk
        rw [hzs, ltB_irrefl] at this; cases this
      · subst he; rw [hk] at e; cases e; exact hzs
      · have h5 := rises_at hr (i := i) (j := k) (x := x.fl) (y := z.fl) hgt (by rw [flsX_getElem?, e]; rfl) (by rw [flsX_getElem?, hk]; rfl)
        have h6 := h4 i x (Nat.le_refl _) e
        have h7 : ltB x.p.data.toList s.data.toList = true := by rw [← hzs]; exact h5
        rw [h6] at h7; cases h7
    · intro h
      exact (hasT_iff _ _).2 ⟨x.fl, by unfold flsX; exact List.mem_map.2 ⟨x, List.mem_of_getElem? e, rfl⟩, h⟩

set_option maxHeartbeats 2000000 in
set_option maxRecDepth 100000 in
theorem bsearch_any (l : List FX) (A : Option Addr) (c : Nat) (s : ByteArray) (w : World) (h : TreeAt w A c l) (hm : l.length ≤ 100000) (hr : (flsX l).Pairwise (fun x y => ltB x.1 y.1 = true)) :
    Calls Tryd.prog 60 #[.slice A l.length c, .string s, .func (.func 57) #[] #[]] w fun e w' =>
      (∃ k : Int, e = .returned (.tuple #[.int .i64 k, .bool (hasT (flsX l) s.data.toList)])) ∧ Below w.heap.size w w' := by
  have EG := Lib.hid (enters_of (P := Tryd.prog) Tryd.func57 (by kernel_rfl) rfl)
  have HT := Lib.hid h; clear h
  have HR := Lib.hid hr; clear hr
  go_enter Tryd.func60, Tryd.ntmps60
  go_wp2_with fail
  go_loopw [9, 10] (fun s9 s10 wr => ∃ i j : Nat, i ≤ j ∧ j ≤ l.length ∧ s9 = .int .i64 i ∧ s10 = .int .i64 j ∧ Hid (Below w.heap.size w wr) ∧ Hid (Between l s i j)) (fun s9 s10 _ => (intOf s10).toNat - (intOf s9).toNat)
  case atStart => exact ⟨0, l.length, Nat.zero_le _, Nat.le_refl _, rfl, rfl, Below.refl _ _, between_start l s⟩
  case round =>
    obtain ⟨i, j, hij, hj, rfl, rfl, HB, HW⟩ := hrel
    by_cases hlt : i < j
    · obtain ⟨m, hmid⟩ : ∃ m, (i + j) / 2 = m := ⟨_, rfl⟩
      have hm1 : i ≤ m := by omega
      have hm2 : m < j := by omega
      have hu : IntKind.u64.wrap ((i : Int) + (j : Int)) = (i : Int) + (j : Int) := by
        rw [show IntKind.u64.wrap ((i : Int) + (j : Int)) = ((i : Int) + (j : Int)) % 18446744073709551616 from rfl]; omega
      have hd : ((i : Int) + (j : Int)) / 2 = (m : Int) := by omega
      clear hmid
      obtain ⟨x, hx⟩ : ∃ x, l[m]? = some x := ⟨_, List.getElem?_eq_getElem (by omega)⟩
      obtain ⟨b, o, hA, hrow⟩ := HT.out.row (by omega)
      subst hA
      obtain ⟨c1, c2⟩ := (hrow.below HB.out) m x hx
      clear hrow
      have HX := Lib.hid hx; clear hx
      have eg := EG.out
      cases hq : ltB x.p.data.toList s.data.toList with
      | true =>
        have hcmp := cmpB_lt hq
        have HQ := Lib.hid hq; clear hq
        have HC := Lib.hid hcmp; clear hcmp
        go_wp2_with fail
        refine (nested1_any x s _).mono ?_
        rintro e w' ⟨rfl, hb'⟩
        rw [HC.out]
        go_wp2_with fail
        go_roundw
        case rel => exact ⟨m + 1, j, by omega, by omega, by go_num, rfl, HB.out.trans (hb'.mono HB.out.size), between_hit HR.out HW.out ⟨hm1, hm2⟩ HX.out HQ.out⟩
        case measure => simp [intOf]; omega
      | false =>
        have hcmp : ¬ Lib.compareBytes x.p.data.toList s.data.toList < 0 := by
          rcases cmpB_cases x.p.data.toList s.data.toList with ⟨_, h2⟩ | ⟨h1, _⟩ | ⟨h1, _⟩
          · rw [hq] at h2; cases h2
          · omega
          · omega
        have HQ := Lib.hid hq; clear hq
        go_wp2_with fail
        refine (nested1_any x s _).mono ?_
        rintro e w' ⟨rfl, hb'⟩
        go_wp2_with fail
        go_roundw
        case rel => exact ⟨i, m, by omega, by omega, rfl, rfl, HB.out.trans (hb'.mono HB.out.size), between_miss HR.out HW.out ⟨hm1, hm2⟩ HX.out HQ.out⟩
        case measure => simp [intOf]; omega
    · obtain rfl : i = j := by omega
      have hend := between_end HR.out HW.out
      by_cases hlt2 : i < l.length
      · obtain ⟨x, hx⟩ : ∃ x, l[i]? = some x := ⟨_, List.getElem?_eq_getElem hlt2⟩
        rw [hx] at hend
        have hend : hasT (flsX l) s.data.toList = (x.p.data.toList == s.data.toList) := hend
        obtain ⟨b, o, hA, hrow⟩ := HT.out.row (by omega)
        subst hA
        obtain ⟨c1, c2⟩ := (hrow.below HB.out) i x hx
        clear hrow
        have HX := Lib.hid hx; clear hx
        have HE := Lib.hid hend; clear hend
        have eg := EG.out
        have hlt3 : (i : Int) < (l.length : Int) := by omega
        have hcmp : (Lib.compareBytes x.p.data.toList s.data.toList == 0) = (x.p.data.toList == s.data.toList) := by
          rcases cmpB_cases x.p.data.toList s.data.toList with ⟨h1, h2⟩ | ⟨h1, h2⟩ | ⟨h1, h2⟩
          · rw [h1, beq_eq_false_iff_ne.2 (ltB_ne _ _ h2)]; rfl
          · rw [h1, h2]; simp
          · rw [h1, beq_eq_false_iff_ne.2 (ltB_ne _ _ h2).symm]; rfl
        have HC := Lib.hid hcmp; clear hcmp
        go_wp2_with fail
        refine (nested1_any x s _).mono ?_
        rintro e w' ⟨rfl, hb'⟩
        go_wp2_with fail
        go_ret2
        exact ⟨⟨_, ret_intbool (HC.out.trans HE.out.symm)⟩, HB.out.trans (hb'.mono HB.out.size)⟩
      · have hx : l[i]? = none := List.getElem?_eq_none_iff.2 (by omega)
        rw [hx] at hend
        have hend : hasT (flsX l) s.data.toList = false := hend
        clear hx
        go_wp2_with fail
        go_ret2
        exact ⟨⟨_, ret_intbool rfl⟩, HB.out⟩
end Go.Proofs.YtedcaodbcognjaaDoor
