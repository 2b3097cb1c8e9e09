/-
  The document's own SameTexts of two rows of texts.
-/
import Derived.Test.YtckpojkbcbogbaaDoorBdMem
import Derived.Test.YtckpojkbcbogbaaDoorConsists
import Derived.BigRegion
import Derived.BigQuiet
import Derived.WalkKit
namespace Go.Proofs.YtckpojkbcbogbaaDoor
open Go Go.RowKit Go.Shelf Go.Proofs
attribute [local go_sem] Oper.semAt_some

theorem take_eq_allT {α : Type} {l m : List α} {k : Nat} (h : ∀ j, j < k → l[j]? = m[j]?) (hl : l.length = k) (hm : m.length = k) : l = m := by
  apply List.ext_getElem? 
  intro j
  by_cases e : j < k
  · exact h j e
  · rw [List.getElem?_eq_none (by omega), List.getElem?_eq_none (by omega)]

set_option maxRecDepth 100000 in
set_option maxHeartbeats 4000000 in
theorem btexts_any (l m : List Bs) (A B : Option Addr) (c d : Nat) (w : World) (ha : StrsAt w A l) (hb : StrsAt w B m) (_hl : l.length ≤ 9000000000000) (hm : m.length ≤ 9000000000000) :
    Calls Tryd.prog 33 #[.slice A l.length c, .slice B m.length d] w fun e w' => e = .returned (.bool (decide (l = m))) ∧ Below w.heap.size w w' := by
  have HA := Lib.hid ha; clear ha
  have HB := Lib.hid hb; clear hb
  by_cases hlm : l.length = m.length
  · obtain ⟨n, hn⟩ : ∃ n, m.length = n := ⟨_, rfl⟩
    have hln : l.length = n := by omega
    rw [hln, hn]
    rw [hn] at hm
    have HN := Lib.hid hn
    have HLN := Lib.hid hln
    have g1 : ((n : Int) != (n : Int)) = false := by simp
    clear hlm hn hln _hl
    go_enter Tryd.func33, Tryd.ntmps33
    go_wp2_with fail
    clear g1
    go_loopw [5] (fun i wr => ∃ (k : Nat), k ≤ n ∧ i = .int .i64 k ∧ Hid (∀ j, j < k → l[j]? = m[j]?) ∧ Below w.heap.size w wr) (fun i _ => n - (intOf i).toNat)
    case atStart => exact ⟨0, Nat.zero_le _, rfl, fun j hj => absurd hj (Nat.not_lt_zero _), Below.refl _ _⟩
    case round =>
      obtain ⟨k, hk, rfl, hsame, hbr⟩ := hrel
      by_cases h1 : k < n
      · have hlk : k < l.length := by have := HLN.out; omega
        have hmk : k < m.length := by have := HN.out; omega
        obtain ⟨x, hx⟩ : ∃ x, l[k]? = some x := ⟨_, List.getElem?_eq_getElem hlk⟩
        obtain ⟨y, hy⟩ : ∃ y, m[k]? = some y := ⟨_, List.getElem?_eq_getElem hmk⟩
        obtain ⟨g, o, hA, hr⟩ := (HA.out.below hbr) (by omega)
        subst hA
        obtain ⟨g', o', hB, hr'⟩ := (HB.out.below hbr) (by omega)
        subst hB
        have c1 := hr k x hx
        have c2 := hr' k y hy
        have k1 : (k : Int) < (n : Int) := by omega
        have wk : IntKind.i64.wrap (k : Int) = (k : Int) := IntWalk.i64_in _ (by omega)
        have HX := Lib.hid hx
        have HY := Lib.hid hy
        have HS := Lib.hid hsame
        clear hr hr' hx hy hlk hmk hsame
        cases hxy : ((mkB x).toList == (mkB y).toList) with
        | true =>
          have hexy : x = y := by rw [beq_iff_eq, ByteArray.toList_eq, ByteArray.toList_eq, mkB_data, mkB_data] at hxy; exact hxy
          have HE := Lib.hid hexy
          clear hexy
          go_wp2_with fail
          go_region
          go_wp2_with fail
          go_roundw
          case rel =>
            refine ⟨k + 1, by omega, by go_num, fun j hj => ?_, hbr.drew⟩
            by_cases e : j = k
            · subst e; exact HX.out.trans (by rw [HE.out]; exact HY.out.symm)
            · exact HS.out j (by omega)
          case measure => simp [intOf]; omega
        | false =>
          have hne : l ≠ m := fun e => by
            have h1 := HX.out
            rw [e, HY.out] at h1
            simp only [Option.some.injEq] at h1
            rw [h1] at hxy; simp at hxy
          have HE := Lib.hid hne
          clear hne
          go_wp2_with fail
          go_region
          go_wp2_with fail
          go_ret
          exact ⟨ret_bool (decide_eq_false HE.out).symm, hbr.drew⟩
      · obtain rfl : k = n := by omega
        have he : l = m := take_eq_allT hsame.out HLN.out HN.out
        have HE := Lib.hid he
        clear he hsame
        go_wp2_with fail
        go_ret
        exact ⟨ret_bool (decide_eq_true HE.out).symm, hbr⟩
  · have g1 : ((l.length : Int) != (m.length : Int)) = true := by simp; omega
    have g2 : ((l.length : Int) = (m.length : Int)) = False := by rw [eq_iff_iff]; constructor <;> (intro h; first | omega | exact h.elim)
    have hne : l ≠ m := fun e => hlm (by rw [e])
    have HE := Lib.hid hne
    clear hne hlm
    go_enter Tryd.func33, Tryd.ntmps33
    go_wp2_with fail
    go_ret
    exact ⟨ret_bool (decide_eq_false HE.out).symm, Below.refl _ _⟩
end Go.Proofs.YtckpojkbcbogbaaDoor
