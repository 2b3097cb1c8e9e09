/-
  A disk whose power is not armed; two areas, the second of which is used. Plain.
-/
import Derived.Test.YtojkifcclgecoaaDkFits
namespace Go.Proofs.Ytojkifcclgecoaa.Dk
open Go

def DDk.calm (d : DDk) : Prop := d.pw = none ∧ d.dead = false
theorem calm_after {d : DDk} (h : d.calm) (n : Nat) : d.after n = d := by unfold DDk.after; rw [h.1]
theorem calm_spend {d : DDk} (h : d.calm) (n : Nat) : d.spend n = n := by unfold DDk.spend; rw [h.1]
theorem calm_state {d : DDk} (h : d.calm) : d.state = 0 := by unfold DDk.state stateN; rw [h.2]; rfl
theorem has_nat {d : DDk} {i : Nat} (hi : i < d.as.length) : d.has (i : Int) = true := by unfold DDk.has; simp; omega
theorem calm_may {d : DDk} (h : d.calm) {i : Nat} (hi : i < d.as.length) : d.may (i : Int) = 0 := by unfold DDk.may; rw [if_pos (has_nat hi)]; exact calm_state h
theorem may_not {d : DDk} {a : Int} (h : d.has a = false) : d.may a = 2 := by unfold DDk.may; rw [h]; rfl
theorem calm_append {d : DDk} (h : d.calm) {i : Nat} (hi : i < d.as.length) {b : List UInt8} (hr : d.used + b.length ≤ d.room) : appendE d i b = 0 ∧ appendD d i b = d.add i (b.map .byte) := by
  have e : d.append i b = d.add i (b.map .byte) := by unfold DDk.append; rw [calm_after h, calm_spend h, List.take_length]
  refine ⟨?_, ?_⟩
  · unfold appendE
    rw [if_neg (by rw [calm_may h hi]; omega), if_neg (by omega), Int.toNat_natCast, e]
    exact calm_state (d := d.add i _) h
  · unfold appendD
    rw [if_neg (by rw [calm_may h hi]; omega), if_neg (by omega), Int.toNat_natCast, e]
theorem calm_full {d : DDk} (h : d.calm) {i : Nat} (hi : i < d.as.length) {b : List UInt8} (hr : d.room < d.used + b.length) : appendE d i b = 8 ∧ appendD d i b = d := by
  constructor
  · unfold appendE
    rw [if_neg (by rw [calm_may h hi]; omega), if_pos hr]
  · unfold appendD
    rw [if_neg (by rw [calm_may h hi]; omega), if_pos hr]
theorem calm_sync {d : DDk} (h : d.calm) {i : Nat} (hi : i < d.as.length) : syncE d i = 0 ∧ syncD d i = d.settle i := by
  have e : d.sync i = d.settle i := by unfold DDk.sync; rw [calm_after h, calm_spend h, if_pos (by omega)]
  constructor
  · unfold syncE
    rw [if_neg (by rw [calm_may h hi]; omega), Int.toNat_natCast, e]
    exact calm_state (d := d.settle i) h
  · unfold syncD
    rw [if_neg (by rw [calm_may h hi]; omega), Int.toNat_natCast, e]
theorem calm_cut {d : DDk} (h : d.calm) {i k : Nat} (hi : i < d.as.length) (hk : k ≤ (d.readL i).length) : cutE d i k = 0 ∧ cutD d i k = d.add i [.cut k] := by
  have e : d.cut i k = d.add i [.cut k] := by unfold DDk.cut; rw [calm_after h, calm_spend h, if_pos (by omega)]
  have hb : ¬ cutBad d i k := by unfold cutBad; omega
  constructor
  · unfold cutE
    rw [if_neg (by rw [calm_may h hi]; omega), if_neg hb, Int.toNat_natCast, Int.toNat_natCast, e]
    exact calm_state (d := d.add i _) h
  · unfold cutD
    rw [if_neg (by rw [calm_may h hi]; omega), if_neg hb, Int.toNat_natCast, Int.toNat_natCast, e]
theorem not_there {d : DDk} {a : Int} (h : d.has a = false) (b : List UInt8) (k : Int) : appendE d a b = 2 ∧ appendD d a b = d ∧ syncE d a = 2 ∧ syncD d a = d ∧ cutE d a k = 2 ∧ cutD d a k = d ∧ d.readL a = [] ∧ d.lastL a = [] := by
  have hm := may_not h
  have hne : d.may a ≠ 0 := by omega
  refine ⟨?_, ?_, ?_, ?_, ?_, ?_, ?_, ?_⟩
  · unfold appendE; rw [if_pos hne, hm]
  · unfold appendD; rw [if_pos hne]
  · unfold syncE; rw [if_pos hne, hm]
  · unfold syncD; rw [if_pos hne]
  · unfold cutE; rw [if_pos hne, hm]
  · unfold cutD; rw [if_pos hne]
  · unfold DDk.readL; rw [if_neg (by rw [h]; decide)]
  · unfold DDk.lastL; rw [if_neg (by rw [h]; decide)]
theorem readL_at {d : DDk} {i : Nat} {x : DAr} (h : d.as[i]? = some x) : d.readL i = x.now := by
  unfold DDk.readL
  rw [if_pos (has_nat (List.getElem?_eq_some_iff.1 h).1), Int.toNat_natCast, h]; rfl
theorem lastL_at {d : DDk} {i : Nat} {x : DAr} (h : d.as[i]? = some x) : d.lastL i = x.l := by
  unfold DDk.lastL
  rw [if_pos (has_nat (List.getElem?_eq_some_iff.1 h).1), Int.toNat_natCast, h]; rfl
theorem add_at {d : DDk} {i : Nat} {x : DAr} (h : d.as[i]? = some x) (s : List DSt) : (d.add i s).as[i]? = some ⟨x.l, x.p ++ s⟩ := by
  show (d.as.modify i _)[i]? = _
  rw [List.getElem?_modify, h]; simp
theorem settle_at {d : DDk} {i : Nat} {x : DAr} (h : d.as[i]? = some x) : (d.settle i).as[i]? = some ⟨x.now, []⟩ := by
  show (d.as.modify i _)[i]? = _
  rw [List.getElem?_modify, h]; simp
theorem add_len (d : DDk) (i : Nat) (s : List DSt) : (d.add i s).as.length = d.as.length := by
  show (d.as.modify i _).length = _
  rw [List.length_modify]
theorem settle_len (d : DDk) (i : Nat) : (d.settle i).as.length = d.as.length := by
  show (d.as.modify i _).length = _
  rw [List.length_modify]
theorem new_calm (a r : Int) : (DDk.new a r).calm := ⟨rfl, rfl⟩
theorem new_used (a r : Int) : (DDk.new a r).used = 0 := by
  unfold DDk.used usedL DDk.new
  generalize (min (max a 0) 8).toNat = n
  induction n with
  | zero => rfl
  | succ n ih => rw [List.replicate_succ, List.map_cons, List.sum_cons, ih]; rfl
theorem new_at {a r : Int} {i : Nat} (h : i < (DDk.new a r).as.length) : (DDk.new a r).as[i]? = some ⟨[], []⟩ := by
  have : i < (min (max a 0) 8).toNat := by
    have e : (DDk.new a r).as.length = (min (max a 0) 8).toNat := List.length_replicate
    omega
  show (List.replicate _ _)[i]? = _
  rw [List.getElem?_replicate, if_pos this]
theorem new_has (n r a : Int) : (DDk.new n r).has a = (decide (0 ≤ a) && decide (a < max 0 (min n 8))) := by
  unfold DDk.has
  have e : (DDk.new n r).as.length = (min (max n 0) 8).toNat := List.length_replicate
  rw [e]
  congr 1
  exact decide_eq_decide.2 (by omega)

/-- The law of areas: all that it asks. -/
theorem areas_law (n a : Int) (b : List UInt8) (hb : b.length ≤ 200) (d1 d2 d3 : DDk) (e1 : d1 = appendD (DDk.new n 1000) a b) (e2 : d2 = syncD d1 a) (e3 : d3 = cutD d2 a 0) :
    let t := decide (0 ≤ a) && decide (a < max 0 (min n 8))
    let q : Nat := if t then 0 else 2
    appendE (DDk.new n 1000) a b = q ∧ syncE d1 a = q ∧ cutE d2 a 0 = q ∧ d3.readL a = [] ∧ d3.lastL a = (if t then b else []) := by
  intro t q
  have ht : (DDk.new n 1000).has a = t := new_has n 1000 a
  cases hh : t with
  | false =>
    rw [hh] at ht
    obtain ⟨k1, k2, k3, k4, k5, k6, k7, k8⟩ := not_there ht b 0
    rw [k2] at e1
    subst e1
    rw [k4] at e2
    subst e2
    rw [k6] at e3
    subst e3
    have hq : q = 2 := by show (if t then 0 else 2) = 2; rw [hh]; rfl
    rw [hq]
    exact ⟨k1, k3, k5, k7, k8⟩
  | true =>
    rw [hh] at ht
    have hq : q = 0 := by show (if t then 0 else 2) = 0; rw [hh]; rfl
    rw [hq]
    have ht' := ht
    unfold DDk.has at ht'
    simp only [Bool.and_eq_true, decide_eq_true_eq] at ht'
    obtain ⟨i, rfl⟩ : ∃ i : Nat, a = i := ⟨a.toNat, by omega⟩
    have hi : i < (DDk.new n 1000).as.length := by omega
    have hu := new_used n 1000
    obtain ⟨k1, k2⟩ := calm_append (new_calm n 1000) hi (b := b) (by rw [hu]; show 0 + b.length ≤ (min (max 1000 0) 4194304 : Int).toNat; omega)
    have a0 := new_at (a := n) (r := 1000) hi
    have a1 := add_at a0 (b.map .byte)
    rw [k2] at e1
    subst e1
    have c1 : ((DDk.new n 1000).add i (b.map .byte)).calm := new_calm n 1000
    have l1 := add_len (DDk.new n 1000) i (b.map .byte)
    obtain ⟨k3, k4⟩ := calm_sync c1 (i := i) (by omega)
    rw [k4] at e2
    have a2 := settle_at a1
    have l2 := settle_len ((DDk.new n 1000).add i (b.map .byte)) i
    have c2 : (((DDk.new n 1000).add i (b.map .byte)).settle i).calm := new_calm n 1000
    subst e2
    obtain ⟨k5, k6⟩ := calm_cut c2 (i := i) (k := 0) (by omega) (Nat.zero_le _)
    have k6 : cutD _ (i : Int) 0 = _ := k6
    rw [k6] at e3
    subst e3
    have a3 := add_at a2 [.cut 0]
    refine ⟨k1, k3, k5, ?_, ?_⟩
    · rw [readL_at a3]
      show runS _ [.cut 0] = []
      rfl
    · rw [lastL_at a3]
      show runS [] ([] ++ b.map .byte) = b
      rw [List.nil_append, runS_bytes, List.nil_append]
end Go.Proofs.Ytojkifcclgecoaa.Dk
