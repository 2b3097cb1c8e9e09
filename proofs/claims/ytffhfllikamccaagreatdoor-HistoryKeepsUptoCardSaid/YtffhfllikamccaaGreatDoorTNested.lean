/-
  The contract of slices.BinarySearchFunc at the files of a tree, as package tree asks it. · The contracts of path.Dir, tree.nested.
-/
import Derived.Test.YtffhfllikamccaaGreatDoorTFuncs
import Derived.Test.YtffhfllikamccaaGreatDoorTLaws
import Derived.Test.YtffhfllikamccaaGreatDoorShelf
import Derived.Lib.LastIndexByte
import Derived.WalkSpells
namespace Go.Proofs.YtffhfllikamccaaGreatDoor
open Go Go.RowKit Go.Shelf Go.Proofs

theorem nested1_any (x : FX) (s : ByteArray) (w : World) :
    Calls Tryz.prog 67 #[.agg #[.string x.p, .slice x.A x.b.length x.c], .string s] w fun e w' => e = .returned (.int .i64 (Lib.compareBytes x.p.data.toList s.data.toList)) ∧ Below w.heap.size w w' := by
  go_enter Tryz.func67, Tryz.ntmps67
  go_wp2_with fail
  refine (Tryz.strings_Compare _ _ _).mono ?_
  rintro e w1 ⟨rfl, hw⟩
  have hw := hw.symm; subst hw
  go_wp2_with fail
  go_ret
  exact ⟨rfl, (Below.refl _ w).alloc (Nat.le_refl _) _⟩

theorem rises_at {l : List Fl} (h : l.Pairwise (fun x y => ltB x.1 y.1 = true)) {i j : Nat} {x y : Fl} (hij : i < j) (hx : l[i]? = some x) (hy : l[j]? = some y) : ltB x.1 y.1 = true := by
  obtain ⟨hi, rfl⟩ := List.getElem?_eq_some_iff.1 hx
  obtain ⟨hj, rfl⟩ := List.getElem?_eq_some_iff.1 hy
  exact List.pairwise_iff_getElem.1 h i j hi hj hij

/-- Of l all ahead of i are below s, all from j on are not. -/
def Between (l : List FX) (s : ByteArray) (i j : Nat) : Prop :=
  i ≤ j ∧ j ≤ l.length ∧ (∀ k x, k < i → l[k]? = some x → ltB x.p.data.toList s.data.toList = true) ∧ (∀ k x, j ≤ k → l[k]? = some x → ltB x.p.data.toList s.data.toList = false)

theorem ret_intbool {k : Int} {a b : Bool} (h : a = b) : Ending.returned (.tuple #[.int .i64 k, .bool a]) = .returned (.tuple #[.int .i64 k, .bool b]) := by rw [h]
theorem between_start (l : List FX) (s : ByteArray) : Between l s 0 l.length :=
  ⟨Nat.zero_le _, Nat.le_refl _, fun k x hk => absurd hk (Nat.not_lt_zero _), fun k x hk hx => by
    have := (List.getElem?_eq_some_iff.1 hx).1
    omega⟩
theorem between_hit {l : List FX} {s : ByteArray} {i j m : Nat} {x : FX} (hr : (flsX l).Pairwise (fun x y => ltB x.1 y.1 = true)) (h : Between l s i j) (hm : i ≤ m ∧ m < j) (hx : l[m]? = some x) (hlt : ltB x.p.data.toList s.data.toList = true) : Between l s (m + 1) j := by
  obtain ⟨h1, h2, h3, h4⟩ := h
  refine ⟨by omega, h2, fun k y hk hy => ?_, h4⟩
  by_cases e : k = m
  · subst e; rw [hx] at hy; cases hy; exact hlt
  · exact ltB_trans _ _ _ (rises_at hr (i := k) (j := m) (x := y.fl) (y := x.fl) (by omega) (by rw [flsX_getElem?, hy]; rfl) (by rw [flsX_getElem?, hx]; rfl)) hlt
theorem between_miss {l : List FX} {s : ByteArray} {i j m : Nat} {x : FX} (hr : (flsX l).Pairwise (fun x y => ltB x.1 y.1 = true)) (h : Between l s i j) (hm : i ≤ m ∧ m < j) (hx : l[m]? = some x) (hlt : ltB x.p.data.toList s.data.toList = false) : Between l s i m := by
  obtain ⟨h1, h2, h3, h4⟩ := h
  refine ⟨hm.1, by omega, h3, fun k y hk hy => ?_⟩
  by_cases e : k = m
  · subst e; rw [hx] at hy; cases hy; exact hlt
  · cases e2 : ltB y.p.data.toList s.data.toList with
    | false => rfl
    | true =>
      have h5 := rises_at hr (i := m) (j := k) (x := x.fl) (y := y.fl) (by omega) (by rw [flsX_getElem?, hx]; rfl) (by rw [flsX_getElem?, hy]; rfl)
      have h6 := ltB_trans _ _ _ h5 e2
      exact absurd h6 (by rw [show x.fl.1 = x.p.data.toList from rfl, hlt]; simp)
theorem between_end {l : List FX} {s : ByteArray} {i : Nat} (hr : (flsX l).Pairwise (fun x y => ltB x.1 y.1 = true)) (h : Between l s i i) : hasT (flsX l) s.data.toList = (match l[i]? with
    | some x => x.p.data.toList == s.data.toList
    | none => false) := by
  obtain ⟨_, _, h3, h4⟩ := h
  cases e : l[i]? with
  | none =>
    refine hasT_below fun y hy => ?_
    unfold flsX at hy
    obtain ⟨z, hz, rfl⟩ := List.mem_map.1 hy
    obtain ⟨k, hk⟩ := List.mem_iff_getElem?.1 hz
    have hl := (List.getElem?_eq_some_iff.1 hk).1
    have := List.getElem?_eq_none_iff.1 e
    exact h3 k z (by omega) hk
  | some x =>
    show _ = (x.p.data.toList == s.data.toList)
    rw [Bool.eq_iff_iff, beq_iff_eq]
    constructor
    · intro h
      obtain ⟨y, hy, hys⟩ := (hasT_iff _ _).1 h
      unfold flsX at hy
      obtain ⟨z, hz, rfl⟩ := List.mem_map.1 hy
      obtain ⟨k, hk⟩ := List.mem_iff_getElem?.1 hz
      have hzs : z.p.data.toList = s.data.toList := hys
      rcases Nat.lt_trichotomy k i with hlt | he | hgt
      · have := h3 k z hlt hk
        rw [hzs, ltB_irrefl] at this; cases this
      · subst he; rw [hk] at e; cases e; exact hzs
      · have h5 := rises_at hr (i := i) (j := k) (x := x.fl) (y := z.fl) hgt (by rw [flsX_getElem?, e]; rfl) (by rw [flsX_getElem?, hk]; rfl)
        have h6 := h4 i x (Nat.le_refl _) e
        have h7 : ltB x.p.data.toList s.data.toList = true := by rw [← hzs]; exact h5
        rw [h6] at h7; cases h7
    · intro h
      exact (hasT_iff _ _).2 ⟨x.fl, by unfold flsX; exact List.mem_map.2 ⟨x, List.mem_of_getElem? e, rfl⟩, h⟩

set_option maxHeartbeats 2000000 in
set_option maxRecDepth 100000 in
theorem bsearch_any (l : List FX) (A : Option Addr) (c : Nat) (s : ByteArray) (w : World) (h : TreeAt w A c l) (hm : l.length ≤ 100000) (hr : (flsX l).Pairwise (fun x y => ltB x.1 y.1 = true)) :
    Calls Tryz.prog 69 #[.slice A l.length c, .string s, .func (.func 67) #[] #[]] w fun e w' =>
      (∃ k : Int, e = .returned (.tuple #[.int .i64 k, .bool (hasT (flsX l) s.data.toList)])) ∧ Below w.heap.size w w' := by
  have EG := Lib.hid (enters_of (P := Tryz.prog) Tryz.func67 (by kernel_rfl) rfl)
  have HT := Lib.hid h; clear h
  have HR := Lib.hid hr; clear hr
  go_enter Tryz.func69, Tryz.ntmps69
  go_wp2_with fail
  go_loopw [9, 10] (fun s9 s10 wr => ∃ i j : Nat, i ≤ j ∧ j ≤ l.length ∧ s9 = .int .i64 i ∧ s10 = .int .i64 j ∧ Hid (Below w.heap.size w wr) ∧ Hid (Between l s i j)) (fun s9 s10 _ => (intOf s10).toNat - (intOf s9).toNat)
  case atStart => exact ⟨0, l.length, Nat.zero_le _, Nat.le_refl _, rfl, rfl, Below.refl _ _, between_start l s⟩
  case round =>
    obtain ⟨i, j, hij, hj, rfl, rfl, HB, HW⟩ := hrel
    by_cases hlt : i < j
    · obtain ⟨m, hmid⟩ : ∃ m, (i + j) / 2 = m := ⟨_, rfl⟩
      have hm1 : i ≤ m := by omega
      have hm2 : m < j := by omega
      have hu : IntKind.u64.wrap ((i : Int) + (j : Int)) = (i : Int) + (j : Int) := by
        rw [show IntKind.u64.wrap ((i : Int) + (j : Int)) = ((i : Int) + (j : Int)) % 18446744073709551616 from rfl]; omega
      have hd : ((i : Int) + (j : Int)) / 2 = (m : Int) := by omega
      clear hmid
      obtain ⟨x, hx⟩ : ∃ x, l[m]? = some x := ⟨_, List.getElem?_eq_getElem (by omega)⟩
      obtain ⟨b, o, hA, hrow⟩ := HT.out.row (by omega)
      subst hA
      obtain ⟨c1, c2⟩ := (hrow.below HB.out) m x hx
      clear hrow
      have HX := Lib.hid hx; clear hx
      have eg := EG.out
      cases hq : ltB x.p.data.toList s.data.toList with
      | true =>
        have hcmp := cmpB_lt hq
        have HQ := Lib.hid hq; clear hq
        have HC := Lib.hid hcmp; clear hcmp
        go_wp2_with fail
        refine (nested1_any x s _).mono ?_
        rintro e w' ⟨rfl, hb'⟩
        rw [HC.out]
        go_wp2_with fail
        go_roundw
        case rel => exact ⟨m + 1, j, by omega, by omega, by go_num, rfl, HB.out.trans (hb'.mono HB.out.size), between_hit HR.out HW.out ⟨hm1, hm2⟩ HX.out HQ.out⟩
        case measure => simp [intOf]; omega
      | false =>
        have hcmp : ¬ Lib.compareBytes x.p.data.toList s.data.toList < 0 := by
          rcases cmpB_cases x.p.data.toList s.data.toList with ⟨_, h2⟩ | ⟨h1, _⟩ | ⟨h1, _⟩
          · rw [hq] at h2; cases h2
          · omega
          · omega
        have HQ := Lib.hid hq; clear hq
        go_wp2_with fail
        refine (nested1_any x s _).mono ?_
        rintro e w' ⟨rfl, hb'⟩
        go_wp2_with fail
        go_roundw
        case rel => exact ⟨i, m, by omega, by omega, rfl, rfl, HB.out.trans (hb'.mono HB.out.size), between_miss HR.out HW.out ⟨hm1, hm2⟩ HX.out HQ.out⟩
        case measure => simp [intOf]; omega
    · obtain rfl : i = j := by omega
      have hend := between_end HR.out HW.out
      by_cases hlt2 : i < l.length
      · obtain ⟨x, hx⟩ : ∃ x, l[i]? = some x := ⟨_, List.getElem?_eq_getElem hlt2⟩
        rw [hx] at hend
        have hend : hasT (flsX l) s.data.toList = (x.p.data.toList == s.data.toList) := hend
        obtain ⟨b, o, hA, hrow⟩ := HT.out.row (by omega)
        subst hA
        obtain ⟨c1, c2⟩ := (hrow.below HB.out) i x hx
        clear hrow
        have HX := Lib.hid hx; clear hx
        have HE := Lib.hid hend; clear hend
        have eg := EG.out
        have hlt3 : (i : Int) < (l.length : Int) := by omega
        have hcmp : (Lib.compareBytes x.p.data.toList s.data.toList == 0) = (x.p.data.toList == s.data.toList) := by
          rcases cmpB_cases x.p.data.toList s.data.toList with ⟨h1, h2⟩ | ⟨h1, h2⟩ | ⟨h1, h2⟩
          · rw [h1, beq_eq_false_iff_ne.2 (ltB_ne _ _ h2)]; rfl
          · rw [h1, h2]; simp
          · rw [h1, beq_eq_false_iff_ne.2 (ltB_ne _ _ h2).symm]; rfl
        have HC := Lib.hid hcmp; clear hcmp
        go_wp2_with fail
        refine (nested1_any x s _).mono ?_
        rintro e w' ⟨rfl, hb'⟩
        go_wp2_with fail
        go_ret2
        exact ⟨⟨_, ret_intbool (HC.out.trans HE.out.symm)⟩, HB.out.trans (hb'.mono HB.out.size)⟩
      · have hx : l[i]? = none := List.getElem?_eq_none_iff.2 (by omega)
        rw [hx] at hend
        have hend : hasT (flsX l) s.data.toList = false := hend
        clear hx
        go_wp2_with fail
        go_ret2
        exact ⟨⟨_, ret_intbool rfl⟩, HB.out⟩
end Go.Proofs.YtffhfllikamccaaGreatDoor
namespace Go.Proofs.YtffhfllikamccaaGreatDoor
open Go Go.RowKit Go.Shelf Go.Proofs

theorem ret_stringT {a b : ByteArray} (h : a = b) : Ending.returned (.string a) = .returned (.string b) := by rw [h]
theorem slash_iff (s : ByteArray) (j : Nat) (hj : j < s.size) : ((s.data[j]!).toNat : Int) = 47 ↔ s.data.toList[j]? = some 47 := by
  have hj' : j < s.data.size := hj
  rw [getElem!_pos s.data j hj', Array.getElem?_toList, Array.getElem?_eq_getElem hj']
  simp only [Option.some.injEq, ← UInt8.toNat_inj]
  exact ⟨fun h => by have : (47 : UInt8).toNat = 47 := rfl; omega, fun h => by rw [h]; rfl⟩
theorem dirL_miss (s : ByteArray) (hn : ∀ j : Nat, j < s.size → ((s.data[j]!).toNat : Int) ≠ 47) : dirL s.data.toList = [] := by
  refine dirL_none _ fun c hc e => ?_
  obtain ⟨j, hj⟩ := List.mem_iff_getElem?.1 hc
  have hl := (List.getElem?_eq_some_iff.1 hj).1
  rw [Array.length_toList] at hl
  exact hn j hl ((slash_iff s j hl).2 (by rw [hj, e]))
theorem dirL_hit (s : ByteArray) (i : Nat) (hi : i < s.size) (hc : ((s.data[i]!).toNat : Int) = 47) (hn : ∀ j : Nat, i < j → j < s.size → ((s.data[j]!).toNat : Int) ≠ 47) : dirL s.data.toList = s.data.toList.take i := by
  have hi' := (slash_iff s i hi).1 hc
  have hsp : s.data.toList = s.data.toList.take i ++ 47 :: s.data.toList.drop (i + 1) := by
    obtain ⟨hl, he⟩ := List.getElem?_eq_some_iff.1 hi'
    conv => lhs; rw [← List.take_append_drop i s.data.toList, List.drop_eq_getElem_cons hl, he]
  conv => lhs; rw [hsp]
  refine dirL_slash _ _ fun c hc2 e => ?_
  obtain ⟨j, hj⟩ := List.mem_iff_getElem?.1 hc2
  rw [List.getElem?_drop] at hj
  have hl := (List.getElem?_eq_some_iff.1 hj).1
  rw [Array.length_toList] at hl
  exact hn (i + 1 + j) (by omega) hl ((slash_iff s _ hl).2 (by rw [hj, e]))

set_option maxHeartbeats 1000000 in
theorem pdir_any (s : ByteArray) (w : World) (hs : s.size ≤ 1000000) :
    Calls Tryz.prog 68 #[.string s] w fun e w' => e = .returned (.string (mkB (dirL s.data.toList))) ∧ w = w' := by
  rcases Lib.lastIndexByte_spec s 47 with ⟨hk, hn⟩ | ⟨i, hi, hk, hc, hn⟩
  · have hr : mkB (dirL s.data.toList) = s.extract 0 0 := by rw [dirL_miss s hn]; apply ByteArray.ext; simp [mkB]
    have HR := Lib.hid hr; clear hr
    have HK := Lib.hid hk; clear hk
    have HN := Lib.hid hn; clear hn
    go_enter Tryz.func68, Tryz.ntmps68
    go_wp2_with (go_at_call 90; refine (Tryz.strings_LastIndexByte s 47 (by omega) _).mono ?_; rintro e w' ⟨rfl, rfl⟩; rw [HK.out])
    go_ret
    exact ⟨ret_stringT HR.out.symm, rfl⟩
  · have hr : mkB (dirL s.data.toList) = s.extract 0 i := by
      rw [dirL_hit s i hi hc hn, ← data_mkB (s.extract 0 i), Lib.extract_data]; simp
    have HR := Lib.hid hr; clear hr
    have HK := Lib.hid hk; clear hk
    have HN := Lib.hid hn; clear hn
    have HC := Lib.hid hc; clear hc
    go_enter Tryz.func68, Tryz.ntmps68
    go_wp2_with (go_at_call 90; refine (Tryz.strings_LastIndexByte s 47 (by omega) _).mono ?_; rintro e w' ⟨rfl, rfl⟩; rw [HK.out])
    go_ret
    exact ⟨ret_stringT HR.out.symm, rfl⟩

theorem dir_less (s : ByteArray) (h : s.data.toList ≠ []) : (mkB (dirL s.data.toList)).size < s.size := by
  have := dir_shorter h
  rw [mkB_size]
  rwa [Array.length_toList] at this
theorem dir_small (s : ByteArray) (hs : s.size ≤ 1000000) : (mkB (dirL s.data.toList)).size ≤ 1000000 := by
  by_cases h : s.data.toList = []
  · rw [h, mkB_size]; simp [dirL]
  · have := dir_less s h; omega
def strLen : Value → Nat
  | .string d => d.size
  | _ => 0
/-- Of l none that stands ahead of k lies below another one. -/
def NoneBelow (l : List FX) (k : Nat) : Prop := ∀ j x, j < k → l[j]? = some x → ((flsX l).any fun y => !y.1.isEmpty && underL x.p.data.toList y.1) = false
theorem nested_false {l : List FX} (h : NoneBelow l l.length) : nestedL (flsX l) = false := by
  unfold nestedL
  rw [List.any_eq_false]
  intro y hy
  unfold flsX at hy
  obtain ⟨x, hx, rfl⟩ := List.mem_map.1 hy
  obtain ⟨j, hj⟩ := List.mem_iff_getElem?.1 hx
  rw [h j x (List.getElem?_eq_some_iff.1 hj).1 hj |> fun e => show ((flsX l).any fun y => !y.1.isEmpty && underL x.fl.1 y.1) = false from e]
  simp
theorem nested_true {l : List FX} {k : Nat} {x : FX} (hx : l[k]? = some x) (h : ((flsX l).any fun y => !y.1.isEmpty && underL x.p.data.toList y.1) = true) : nestedL (flsX l) = true := by
  unfold nestedL
  rw [List.any_eq_true]
  exact ⟨x.fl, by unfold flsX; exact List.mem_map.2 ⟨x, List.mem_of_getElem? hx, rfl⟩, h⟩

set_option maxHeartbeats 4000000 in
set_option maxRecDepth 100000 in
theorem nested_any (l : List FX) (A : Option Addr) (c : Nat) (w : World) (h : TreeAt w A c l) (hm : SmallX l) (hr : (flsX l).Pairwise (fun x y => ltB x.1 y.1 = true)) :
    Calls Tryz.prog 49 #[.slice A l.length c] w fun e w' => e = .returned (.bool (nestedL (flsX l))) ∧ Below w.heap.size w w' := by
  have hl : l.length ≤ 100000 := hm.1
  have HT := Lib.hid h; clear h
  have HR := Lib.hid hr; clear hr
  have HM := Lib.hid hm; clear hm
  go_enter Tryz.func49, Tryz.ntmps49
  go_wp2_with fail
  go_loopw [11] (fun s11 wr => ∃ k : Nat, k ≤ l.length ∧ s11 = .int .i64 k ∧ Hid (Below w.heap.size w wr) ∧ Hid (NoneBelow l k)) (fun s11 _ => l.length - (intOf s11).toNat)
  case atStart => exact ⟨0, Nat.zero_le _, rfl, Below.refl _ _, fun j x hj => absurd hj (Nat.not_lt_zero _)⟩
  case round =>
    obtain ⟨k, hk, rfl, HB, HN⟩ := hrel
    by_cases hlt : k < l.length
    · obtain ⟨x, hx⟩ : ∃ x, l[k]? = some x := ⟨_, List.getElem?_eq_getElem hlt⟩
      obtain ⟨b, o, hA, hrow⟩ := HT.out.row (by omega)
      subst hA
      obtain ⟨c1, c2⟩ := (hrow.below HB.out) k x hx
      have hxs := (HM.out.2 x (List.mem_of_getElem? hx)).1
      clear hrow
      have HX := Lib.hid hx; clear hx
      obtain ⟨wo, rfl⟩ : ∃ wo : World, wo = wr := ⟨_, rfl⟩
      have hb1 : Below wo.heap.size wo ((wo.alloc (.cells #[.string x.p, .slice x.A x.b.length x.c] 65))) := (Below.refl _ wo).alloc (Nat.le_refl _) _
      go_wp2_with fail
      refine (pdir_any x.p _ hxs).mono ?_
      rintro e w' ⟨rfl, rfl⟩
      go_wp2_with fail
      go_loopw [6] (fun s6 wi => ∃ d : ByteArray, s6 = .string d ∧ d.size ≤ 1000000 ∧ Hid (Below w.heap.size w wi) ∧ Hid (DirInv (flsX l) x.p.data.toList d.data.toList)) (fun s6 _ => strLen s6)
      case atStart =>
        exact ⟨_, rfl, dir_small x.p hxs, HB.out.trans (hb1.mono HB.out.size), by rw [mkB_data]; exact DirInv.start _ _⟩
      case round =>
        obtain ⟨d, rfl, hds, HBi, HD⟩ := hrel
        by_cases hd : d.toList = []
        · have g1 : d.toList.isEmpty = true := by simp [hd]
          have HDD := Lib.hid hd; clear hd
          go_wp2_with fail
          go_roundw
          case rel =>
            refine ⟨k + 1, by omega, by go_num, HBi.out, fun j y hj hy => ?_⟩
            by_cases e : j = k
            · subst e
              have := HX.out.symm.trans hy
              cases this
              have h0 : d.data.toList = [] := by rw [← ByteArray.toList_eq]; exact HDD.out
              have h1 := HD.out
              rw [h0] at h1
              exact h1.done
            · exact HN.out j y (by omega) hy
          case measure => simp [intOf]; omega
        · have g1 : d.toList.isEmpty = false := by simpa using hd
          have hne : d.data.toList ≠ [] := by rw [← ByteArray.toList_eq]; exact hd
          have HDD := Lib.hid hne; clear hne hd
          have hT := HT.out.below (w' := wr) (HBi.out.mono (Nat.le_refl _))
          have HTT := Lib.hid hT; clear hT
          cases hq : hasT (flsX l) d.data.toList with
          | true =>
            have HQ := Lib.hid hq; clear hq
            go_wp2_with fail
            refine (bsearch_any l _ c d _ HTT.out (by omega) HR.out).mono ?_
            rintro e w2 ⟨⟨kk, rfl⟩, hb2⟩
            rw [HQ.out]
            go_wp2_with fail
            go_ret
            refine ⟨?_, HBi.out.trans (hb2.mono HBi.out.size)⟩
            obtain ⟨y, hy, hys⟩ := (hasT_iff _ _).1 HQ.out
            rw [nested_true HX.out (HD.out.found HDD.out hy hys)]
            rfl
          | false =>
            have HQ := Lib.hid hq; clear hq
            go_wp2_with fail
            refine (bsearch_any l _ c d _ HTT.out (by omega) HR.out).mono ?_
            rintro e w2 ⟨⟨kk, rfl⟩, hb2⟩
            rw [HQ.out]
            go_wp2_with fail
            refine (pdir_any d _ hds).mono ?_
            rintro e w3 ⟨rfl, rfl⟩
            go_wp2_with fail
            go_roundw
            case rel =>
              refine ⟨_, rfl, dir_small d hds, HBi.out.trans (hb2.mono HBi.out.size), ?_⟩
              rw [mkB_data]
              exact HD.out.next HDD.out fun y hy e => absurd ((hasT_iff _ _).2 ⟨y, hy, e⟩) (by rw [HQ.out]; simp)
            case measure => simp only [strLen]; exact dir_less d HDD.out
    · obtain rfl : k = l.length := by omega
      have hf := nested_false HN.out
      have HF := Lib.hid hf; clear hf
      go_wp2_with fail
      go_ret
      exact ⟨ret_boolT HF.out.symm, HB.out⟩
end Go.Proofs.YtffhfllikamccaaGreatDoor
