/-
  The document's own Same, of trees of any length.
-/
import Derived.Test.YtnkfnmkbfnhmfaaGreatDoorTRefA
import Derived.BigRegion
import Derived.Deep.RegionHeld3
import Derived.BigQuiet
namespace Go.Proofs.YtnkfnmkbfnhmfaaGreatDoor
open Go Go.RowKit Go.Shelf Go.Proofs
attribute [local go_sem] Oper.semAt_some

theorem fls_take_eqG {a b : List FX} {k : Nat} {x y : FX} (h : (flsX a).take k = (flsX b).take k) (hx : a[k]? = some x) (hy : b[k]? = some y) (h1 : (x.p.toList == y.p.toList) = true) (h2 : (x.b == y.b) = true) : (flsX a).take (k + 1) = (flsX b).take (k + 1) := by
  rw [List.take_add_one, List.take_add_one, h, flsX_getElem?, flsX_getElem?, hx, hy]
  rw [beq_iff_eq, ByteArray.toList_eq, ByteArray.toList_eq] at h1
  have e : x.fl = y.fl := Prod.ext h1 (beq_iff_eq.1 h2)
  show _ ++ (some x.fl).toList = _ ++ (some y.fl).toList
  rw [e]
theorem fls_ne_atG {a b : List FX} {k : Nat} {x y : FX} (hx : a[k]? = some x) (hy : b[k]? = some y) (h : (x.p.toList == y.p.toList) = false ∨ (x.b == y.b) = false) : decide (flsX a = flsX b) = false := decide_eq_false fun e => by
  have e2 : (flsX a)[k]? = (flsX b)[k]? := by rw [e]
  rw [flsX_getElem?, flsX_getElem?, hx, hy] at e2
  have e3 : x.fl = y.fl := Option.some.inj e2
  rcases h with h | h
  · rw [beq_eq_false_iff_ne, ByteArray.toList_eq, ByteArray.toList_eq] at h
    exact h (congrArg (·.1) e3)
  · rw [beq_eq_false_iff_ne] at h
    exact h (congrArg (·.2) e3)

set_option maxRecDepth 100000 in
set_option maxHeartbeats 8000000 in
theorem refsameG_any (a b : List FX) (A B : Option Addr) (ca cb : Nat) (w : World) (ha : TreeAt w A ca a) (hb : TreeAt w B cb b) (la : a.length ≤ 1000000000) (_lb : b.length ≤ 1000000000) :
    Calls Tryz.prog 24 #[.slice A a.length ca, .slice B b.length cb] w fun e w' => e = .returned (.bool (decide (flsX a = flsX b))) ∧ Below w.heap.size w w' := by
  have HA := Lib.hid ha; clear ha
  have HB := Lib.hid hb; clear hb
  by_cases hlen : a.length = b.length
  · have h0 : ((a.length : Int) == (b.length : Int)) = true := by rw [beq_iff_eq]; omega
    go_enter Tryz.func24, Tryz.ntmps24
    go_wp2_with fail
    go_loopw [5] (fun i wr => ∃ (k : Nat), k ≤ a.length ∧ i = .int .i64 k ∧ (flsX a).take k = (flsX b).take k ∧ Below w.heap.size w wr) (fun i _ => a.length - (intOf i).toNat)
    case atStart => exact ⟨0, Nat.zero_le _, rfl, rfl, Below.refl _ _⟩
    case round =>
      obtain ⟨k, hk, rfl, heq, hbr⟩ := hrel
      by_cases h1 : k < a.length
      · obtain ⟨x, hx⟩ : ∃ x, a[k]? = some x := ⟨_, List.getElem?_eq_getElem h1⟩
        obtain ⟨y, hy⟩ : ∃ y, b[k]? = some y := ⟨_, List.getElem?_eq_getElem (by omega)⟩
        have htA := HA.out.below hbr
        have htB := HB.out.below hbr
        obtain ⟨g, o, eA, hr⟩ := htA.row (by omega)
        subst eA
        obtain ⟨g', o', eB, hr'⟩ := htB.row (by omega)
        subst eB
        obtain ⟨c1, c2⟩ := hr k x hx
        obtain ⟨d1, d2⟩ := hr' k y hy
        have s1 := run_str wr.drew x.A x.c x.b ((htA.files x (List.mem_of_getElem? hx)).below (below_drew1 wr))
        have s2 := run_str wr.drew y.A y.c y.b ((htB.files y (List.mem_of_getElem? hy)).below (below_drew1 wr))
        have he := mkB_eq x.b y.b
        have k1 : (k : Int) < (a.length : Int) := by omega
        have k2 : (k : Int) < (b.length : Int) := by omega
        have wk : IntKind.i64.wrap (k : Int) = (k : Int) := IntWalk.i64_in _ (by omega)
        have HX := Lib.hid hx; clear hx
        have HY := Lib.hid hy; clear hy
        have HEQ := Lib.hid heq; clear heq
        clear hr hr' htA htB
        cases hq : (x.p.toList == y.p.toList) with
        | false =>
          have hf := fls_ne_atG HX.out HY.out (.inl hq)
          have HF := Lib.hid hf; clear hf
          go_wp2_with fail
          go_region
          go_wp2_with fail
          go_ret
          exact ⟨by rw [HF.out]; rfl, hbr.drew⟩
        | true =>
          cases hq2 : (x.b == y.b) with
          | false =>
            have hf := fls_ne_atG HX.out HY.out (.inr hq2)
            have HF := Lib.hid hf; clear hf
            rw [hq2] at he
            go_wp2_with fail
            go_region
            go_wp2_with fail
            go_ret
            exact ⟨by rw [HF.out]; rfl, hbr.drew⟩
          | true =>
            have hn := fls_take_eqG HEQ.out HX.out HY.out hq hq2
            have HN := Lib.hid hn; clear hn
            rw [hq2] at he
            go_wp2_with fail
            go_region
            go_wp2_with fail
            go_roundw
            case rel => exact ⟨k + 1, by omega, by go_num, HN.out, hbr.drew⟩
            case measure => simp [intOf]; omega
      · obtain rfl : k = a.length := by omega
        have hf : decide (flsX a = flsX b) = true := decide_eq_true (by
          rw [List.take_of_length_le (by rw [flsX_length]; omega), List.take_of_length_le (by rw [flsX_length]; omega)] at heq
          exact heq)
        have HF := Lib.hid hf; clear hf heq
        go_wp2_with fail
        go_ret
        exact ⟨by rw [HF.out]; rfl, hbr⟩
  · have h0 : ((a.length : Int) == (b.length : Int)) = false := by rw [beq_eq_false_iff_ne]; omega
    have hf : decide (flsX a = flsX b) = false := decide_eq_false fun e => hlen (by have := congrArg List.length e; rwa [flsX_length, flsX_length] at this)
    have HF := Lib.hid hf; clear hf
    go_enter Tryz.func24, Tryz.ntmps24
    go_wp2_with fail
    go_ret
    exact ⟨by rw [HF.out]; rfl, Below.refl _ _⟩
end Go.Proofs.YtnkfnmkbfnhmfaaGreatDoor
