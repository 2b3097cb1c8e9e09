/-
  The contract of slices.BinarySearchFunc at the files of a tree, as package tree asks it. · The contracts of path.Dir, tree.nested.
-/
import Derived.Test.YtckpojkbcbogbaaDoorTFuncs
import Derived.Test.YtckpojkbcbogbaaDoorTLaws
import Derived.Test.YtckpojkbcbogbaaDoorShelf
import Derived.Lib.LastIndexByte
import Derived.WalkSpells
namespace Go.Proofs.YtckpojkbcbogbaaDoor
open Go Go.RowKit Go.Shelf Go.Proofs

theorem rises_at {l : List Fl} (h : l.Pairwise (fun x y => ltB x.1 y.1 = true)) {i j : Nat} {x y : Fl} (hij : i < j) (hx : l[i]? = some x) (hy : l[j]? = some y) : ltB x.1 y.1 = true := by
  obtain ⟨hi, rfl⟩ := List.getElem?_eq_some_iff.1 hx
  obtain ⟨hj, rfl⟩ := List.getElem?_eq_some_iff.1 hy
  exact List.pairwise_iff_getElem.1 h i j hi hj hij

/-- Of l all ahead of i are below s, all from j on are not. -/
def Between (l : List FX) (s : ByteArray) (i j : Nat) : Prop :=
  i ≤ j ∧ j ≤ l.length ∧ (∀ k x, k < i → l[k]? = some x → ltB x.p.data.toList s.data.toList = true) ∧ (∀ k x, j ≤ k → l[k]? = some x → ltB x.p.data.toList s.data.toList = false)

theorem ret_intbool {k : Int} {a b : Bool} (h : a = b) : Ending.returned (.tuple #[.int .i64 k, .bool a]) = .returned (.tuple #[.int .i64 k, .bool b]) := by rw [h]
theorem between_start (l : List FX) (s : ByteArray) : Between l s 0 l.length :=
  ⟨Nat.zero_le _, Nat.le_refl _, fun k x hk => absurd hk (Nat.not_lt_zero _), fun k x hk hx => by
    have := (List.getElem?_eq_some_iff.1 hx).1
    omega⟩
theorem between_hit {l : List FX} {s : ByteArray} {i j m : Nat} {x : FX} (hr : (flsX l).Pairwise (fun x y => ltB x.1 y.1 = true)) (h : Between l s i j) (hm : i ≤ m ∧ m < j) (hx : l[m]? = some x) (hlt : ltB x.p.data.toList s.data.toList = true) : Between l s (m + 1) j := by
  obtain ⟨h1, h2, h3, h4⟩ := h
  refine ⟨by omega, h2, fun k y hk hy => ?_, h4⟩
  by_cases e : k = m
  · subst e; rw [hx] at hy; cases hy; exact hlt
  · exact ltB_trans _ _ _ (rises_at hr (i := k) (j := m) (x := y.fl) (y := x.fl) (by omega) (by rw [flsX_getElem?, hy]; rfl) (by rw [flsX_getElem?, hx]; rfl)) hlt
theorem between_miss {l : List FX} {s : ByteArray} {i j m : Nat} {x : FX} (hr : (flsX l).Pairwise (fun x y => ltB x.1 y.1 = true)) (h : Between l s i j) (hm : i ≤ m ∧ m < j) (hx : l[m]? = some x) (hlt : ltB x.p.data.toList s.data.toList = false) : Between l s i m := by
  obtain ⟨h1, h2, h3, h4⟩ := h
  refine ⟨hm.1, by omega, h3, fun k y hk hy => ?_⟩
  by_cases e : k = m
  · subst e; rw [hx] at hy; cases hy; exact hlt
  · cases e2 : ltB y.p.data.toList s.data.toList with
    | false => rfl
    | true =>
      have h5 := rises_at hr (i := m) (j := k) (x := x.fl) (y := y.fl) (by omega) (by rw [flsX_getElem?, hx]; rfl) (by rw [flsX_getElem?, hy]; rfl)
      have h6 := ltB_trans _ _ _ h5 e2
      exact absurd h6 (by rw [show x.fl.1 = x.p.data.toList from rfl, hlt]; simp)
theorem between_end {l : List FX} {s : ByteArray} {i : Nat} (hr : (flsX l).Pairwise (fun x y => ltB x.1 y.1 = true)) (h : Between l s i i) : hasT (flsX l) s.data.toList = (match l[i]? with
    | some x => x.p.data.toList == s.data.toList
    | none => false) := by
  obtain ⟨_, _, h3, h4⟩ := h
  cases e : l[i]? with
  | none =>
    refine hasT_below fun y hy => ?_
    unfold flsX at hy
    obtain ⟨z, hz, rfl⟩ := List.mem_map.1 hy
    obtain ⟨k, hk⟩ := List.mem_iff_getElem?.1 hz
    have hl := (List.getElem?_eq_some_iff.1 hk).1
    have := List.getElem?_eq_none_iff.1 e
    exact h3 k z (by omega) hk
  | some x =>
    show _ = (x.p.data.toList == s.data.toList)
    rw [Bool.eq_iff_iff, beq_iff_eq]
    constructor
    · intro h
      obtain ⟨y, hy, hys⟩ := (hasT_iff _ _).1 h
      unfold flsX at hy
      obtain ⟨z, hz, rfl⟩ := List.mem_map.1 hy
      obtain ⟨k, hk⟩ := List.mem_iff_getElem?.1 hz
      have hzs : z.p.data.toList = s.data.toList := hys
      rcases Nat.lt_trichotomy k i with hlt | he | hgt
      · have := h3 k z hlt hk
        rw [hzs, ltB_irrefl] at this; cases this
      · subst he; rw [hk] at e; cases e; exact hzs
      · have h5 := rises_at hr (i := i) (j := k) (x := x.fl) (y := z.fl) hgt (by rw [flsX_getElem?, e]; rfl) (by rw [flsX_getElem?, hk]; rfl)
        have h6 := h4 i x (Nat.le_refl _) e
        have h7 : ltB x.p.data.toList s.data.toList = true := by rw [← hzs]; exact h5
        rw [h6] at h7; cases h7
    · intro h
      exact (hasT_iff _ _).2 ⟨x.fl, by unfold flsX; exact List.mem_map.2 ⟨x, List.mem_of_getElem? e, rfl⟩, h⟩

end Go.Proofs.YtckpojkbcbogbaaDoor
namespace Go.Proofs.YtckpojkbcbogbaaDoor
open Go Go.RowKit Go.Shelf Go.Proofs

theorem ret_stringT {a b : ByteArray} (h : a = b) : Ending.returned (.string a) = .returned (.string b) := by rw [h]
theorem slash_iff (s : ByteArray) (j : Nat) (hj : j < s.size) : ((s.data[j]!).toNat : Int) = 47 ↔ s.data.toList[j]? = some 47 := by
  have hj' : j < s.data.size := hj
  rw [getElem!_pos s.data j hj', Array.getElem?_toList, Array.getElem?_eq_getElem hj']
  simp only [Option.some.injEq, ← UInt8.toNat_inj]
  exact ⟨fun h => by have : (47 : UInt8).toNat = 47 := rfl; omega, fun h => by rw [h]; rfl⟩
theorem dirL_miss (s : ByteArray) (hn : ∀ j : Nat, j < s.size → ((s.data[j]!).toNat : Int) ≠ 47) : dirL s.data.toList = [] := by
  refine dirL_none _ fun c hc e => ?_
  obtain ⟨j, hj⟩ := List.mem_iff_getElem?.1 hc
  have hl := (List.getElem?_eq_some_iff.1 hj).1
  rw [Array.length_toList] at hl
  exact hn j hl ((slash_iff s j hl).2 (by rw [hj, e]))
theorem dirL_hit (s : ByteArray) (i : Nat) (hi : i < s.size) (hc : ((s.data[i]!).toNat : Int) = 47) (hn : ∀ j : Nat, i < j → j < s.size → ((s.data[j]!).toNat : Int) ≠ 47) : dirL s.data.toList = s.data.toList.take i := by
  have hi' := (slash_iff s i hi).1 hc
  have hsp : s.data.toList = s.data.toList.take i ++ 47 :: s.data.toList.drop (i + 1) := by
    obtain ⟨hl, he⟩ := List.getElem?_eq_some_iff.1 hi'
    conv => lhs; rw [← List.take_append_drop i s.data.toList, List.drop_eq_getElem_cons hl, he]
  conv => lhs; rw [hsp]
  refine dirL_slash _ _ fun c hc2 e => ?_
  obtain ⟨j, hj⟩ := List.mem_iff_getElem?.1 hc2
  rw [List.getElem?_drop] at hj
  have hl := (List.getElem?_eq_some_iff.1 hj).1
  rw [Array.length_toList] at hl
  exact hn (i + 1 + j) (by omega) hl ((slash_iff s _ hl).2 (by rw [hj, e]))

set_option maxHeartbeats 1000000 in
theorem pdir_any (s : ByteArray) (w : World) (hs : s.size ≤ 1000000) :
    Calls Tryd.prog 23 #[.string s] w fun e w' => e = .returned (.string (mkB (dirL s.data.toList))) ∧ w = w' := by
  rcases Lib.lastIndexByte_spec s 47 with ⟨hk, hn⟩ | ⟨i, hi, hk, hc, hn⟩
  · have hr : mkB (dirL s.data.toList) = s.extract 0 0 := by rw [dirL_miss s hn]; apply ByteArray.ext; simp [mkB]
    have HR := Lib.hid hr; clear hr
    have HK := Lib.hid hk; clear hk
    have HN := Lib.hid hn; clear hn
    go_enter Tryd.func23, Tryd.ntmps23
    go_wp2_with (go_at_call 49; refine (Tryd.strings_LastIndexByte s 47 (by omega) _).mono ?_; rintro e w' ⟨rfl, rfl⟩; rw [HK.out])
    go_ret
    exact ⟨ret_stringT HR.out.symm, rfl⟩
  · have hr : mkB (dirL s.data.toList) = s.extract 0 i := by
      rw [dirL_hit s i hi hc hn, ← data_mkB (s.extract 0 i), Lib.extract_data]; simp
    have HR := Lib.hid hr; clear hr
    have HK := Lib.hid hk; clear hk
    have HN := Lib.hid hn; clear hn
    have HC := Lib.hid hc; clear hc
    go_enter Tryd.func23, Tryd.ntmps23
    go_wp2_with (go_at_call 49; refine (Tryd.strings_LastIndexByte s 47 (by omega) _).mono ?_; rintro e w' ⟨rfl, rfl⟩; rw [HK.out])
    go_ret
    exact ⟨ret_stringT HR.out.symm, rfl⟩

theorem dir_less (s : ByteArray) (h : s.data.toList ≠ []) : (mkB (dirL s.data.toList)).size < s.size := by
  have := dir_shorter h
  rw [mkB_size]
  rwa [Array.length_toList] at this
theorem dir_small (s : ByteArray) (hs : s.size ≤ 1000000) : (mkB (dirL s.data.toList)).size ≤ 1000000 := by
  by_cases h : s.data.toList = []
  · rw [h, mkB_size]; simp [dirL]
  · have := dir_less s h; omega
def strLen : Value → Nat
  | .string d => d.size
  | _ => 0
/-- Of l none that stands ahead of k lies below another one. -/
def NoneBelow (l : List FX) (k : Nat) : Prop := ∀ j x, j < k → l[j]? = some x → ((flsX l).any fun y => !y.1.isEmpty && underL x.p.data.toList y.1) = false
theorem nested_false {l : List FX} (h : NoneBelow l l.length) : nestedL (flsX l) = false := by
  unfold nestedL
  rw [List.any_eq_false]
  intro y hy
  unfold flsX at hy
  obtain ⟨x, hx, rfl⟩ := List.mem_map.1 hy
  obtain ⟨j, hj⟩ := List.mem_iff_getElem?.1 hx
  rw [h j x (List.getElem?_eq_some_iff.1 hj).1 hj |> fun e => show ((flsX l).any fun y => !y.1.isEmpty && underL x.fl.1 y.1) = false from e]
  simp
theorem nested_true {l : List FX} {k : Nat} {x : FX} (hx : l[k]? = some x) (h : ((flsX l).any fun y => !y.1.isEmpty && underL x.p.data.toList y.1) = true) : nestedL (flsX l) = true := by
  unfold nestedL
  rw [List.any_eq_true]
  exact ⟨x.fl, by unfold flsX; exact List.mem_map.2 ⟨x, List.mem_of_getElem? hx, rfl⟩, h⟩

end Go.Proofs.YtckpojkbcbogbaaDoor
