/-
  The contracts of what each law of layer 10 asks: whether rows of numbers are the same, whether a graph is looked at, the chapter's example.
-/
import Derived.Test.YteigepblocbnlaaGpDepths2
import Derived.Test.YteigepblocbnlaaGpReach
namespace Go.Proofs.Yteigepblocbnlaa.Gp
open Go Go.RowKit Go.Shelf Go.Proofs
attribute [local go_sem] Oper.semAt_some

theorem take_eqG {α : Type} {l m : List α} {n : Nat} (h : ∀ j, j < n → l[j]? = m[j]?) (hl : l.length = n) (hm : m.length = n) : l = m := by
  apply List.ext_getElem?
  intro i
  by_cases hi : i < n
  · exact h i hi
  · rw [List.getElem?_eq_none (by omega), List.getElem?_eq_none (by omega)]
set_option maxRecDepth 100000 in
set_option maxHeartbeats 4000000 in
theorem sameints_any (l m : List Nat) (A B : Option Addr) (c d : Nat) (w : World) (ha : IntsAt w A l) (hb : IntsAt w B m) (hm : m.length ≤ 9000000000000) (_hl : l.length ≤ 9000000000000) :
    Calls Try.prog 17 #[.slice A l.length c, .slice B m.length d] w fun e w' => e = .returned (.bool (decide (l = m))) ∧ Below w.heap.size w w' := by
  have HA := Lib.hid ha; clear ha
  have HB := Lib.hid hb; clear hb
  by_cases hlm : l.length = m.length
  · obtain ⟨n, hn⟩ : ∃ n, m.length = n := ⟨_, rfl⟩
    have hln : l.length = n := by omega
    rw [hln, hn]
    rw [hn] at hm
    have HN := Lib.hid hn
    have HLN := Lib.hid hln
    have g1 : ((n : Int) != (n : Int)) = false := by simp
    clear hlm hn hln
    go_enter Try.func17, Try.ntmps17
    go_wp2_with fail
    clear g1
    go_loopw [5] (fun i wr => ∃ (k : Nat), k ≤ n ∧ i = .int .i64 k ∧ Hid (∀ j, j < k → l[j]? = m[j]?) ∧ Below w.heap.size w wr) (fun i _ => n - (intOf i).toNat)
    case atStart => exact ⟨0, Nat.zero_le _, rfl, fun j hj => absurd hj (Nat.not_lt_zero _), Below.refl _ _⟩
    case round =>
      obtain ⟨k, hk, rfl, hsame, hbr⟩ := hrel
      by_cases h1 : k < n
      · have hlk : k < l.length := by have := HLN.out; omega
        have hmk : k < m.length := by have := HN.out; omega
        obtain ⟨x, hx⟩ : ∃ x, l[k]? = some x := ⟨_, List.getElem?_eq_getElem hlk⟩
        obtain ⟨y, hy⟩ : ∃ y, m[k]? = some y := ⟨_, List.getElem?_eq_getElem hmk⟩
        obtain ⟨g, o, hA, hr⟩ := (HA.out.below hbr) (by omega)
        subst hA
        obtain ⟨g', o', hB, hr'⟩ := (HB.out.below hbr) (by omega)
        subst hB
        have c1 := hr k x hx
        have c2 := hr' k y hy
        unfold vI at c1 c2
        have k1 : (k : Int) < (n : Int) := by omega
        have wk : IntKind.i64.wrap (k : Int) = (k : Int) := IntWalk.i64_in _ (by omega)
        have HX := Lib.hid hx
        have HY := Lib.hid hy
        have HS := Lib.hid hsame
        clear hr hr' hx hy hlk hmk hsame
        by_cases hxy : x = y
        · subst hxy
          have g2 : ((x : Int) != (x : Int)) = false := by simp
          go_wp2_with fail
          go_region
          go_wp2_with fail
          go_roundw
          case rel =>
            refine ⟨k + 1, by omega, by go_num, fun j hj => ?_, hbr.drew⟩
            by_cases e : j = k
            · subst e; exact HX.out.trans HY.out.symm
            · exact HS.out j (by omega)
          case measure => simp [intOf]; omega
        · have hne : l ≠ m := fun e => by
            have h1 := HX.out
            rw [e, HY.out] at h1
            simp only [Option.some.injEq] at h1
            exact hxy h1.symm
          have HE := Lib.hid hne
          have g2 : ((x : Int) != (y : Int)) = true := by simp; omega
          have g3 : ((x : Int) = (y : Int)) = False := eq_false (by omega)
          clear hne hxy
          go_wp2_with fail
          go_region
          go_wp2_with fail
          go_ret
          exact ⟨ret_b (decide_eq_false HE.out).symm, hbr.drew⟩
      · obtain rfl : k = n := by omega
        have he : l = m := take_eqG hsame.out HLN.out HN.out
        have HE := Lib.hid he
        clear he hsame
        go_wp2_with fail
        go_ret
        exact ⟨ret_b (decide_eq_true HE.out).symm, hbr⟩
  · have g1 : ((l.length : Int) != (m.length : Int)) = true := by simp; omega
    have g2 : ((l.length : Int) = (m.length : Int)) = False := by rw [eq_iff_iff]; constructor <;> (intro h; first | omega | exact h.elim)
    have hne : l ≠ m := fun e => hlm (by rw [e])
    have HE := Lib.hid hne
    clear hne hlm
    go_enter Try.func17, Try.ntmps17
    go_wp2_with fail
    go_ret
    exact ⟨ret_b (decide_eq_false HE.out).symm, Below.refl _ _⟩

def smallB (n : Int) (L : Nat) : Bool := decide (n ≤ 60) && decide ((L : Int) ≤ 150)
set_option maxHeartbeats 1000000 in
theorem small_any (n : Int) (A : Option Addr) (L c : Nat) (w : World) :
    Calls Try.prog 11 #[.int .i64 n, .slice A L c] w fun e w' => e = .returned (.bool (smallB n L)) ∧ w' = w := by
  by_cases h1 : n ≤ 60
  · have k1 : decide (n ≤ 60) = true := decide_eq_true h1
    go_enter Try.func11, Try.ntmps11
    go_wp2_with fail
    go_ret
    exact ⟨ret_b (by unfold smallB; rw [k1, Bool.true_and]), rfl⟩
  · have k1 : decide (n ≤ 60) = false := decide_eq_false h1
    go_enter Try.func11, Try.ntmps11
    go_wp2_with fail
    go_ret
    exact ⟨ret_b (by unfold smallB; rw [k1, Bool.false_and]), rfl⟩

theorem IntsAt.block {w : World} {g : Nat} {l : List Nat} (h : w.heap[g]? = some (.cells (valsI l).toArray 3 (0, 0))) : IntsAt w (some ⟨g, 0, none⟩) l := fun _ => ⟨g, 0, rfl, fun i x hx => by
  rw [cell_of_row _ _ _ _ _ _ h, Nat.zero_add, List.getElem?_toArray]; exact valsI_get hx⟩
def m3 : List EN := [(0, 1), (1, 2), (2, 1)]
theorem m3_rings : RT 3 m3 = [0, 1, 1] := by kernel_rfl
theorem m3_depths : DT 3 m3 = [1, 0, 0] := by kernel_rfl
theorem m3_reach : RC 3 m3 1 = [false, true, true] := by kernel_rfl
theorem EdgesAt.lit (w : World) : EdgesAt (w.alloc (.cells #[.int .i64 0, .int .i64 1, .int .i64 1, .int .i64 2, .int .i64 2, .int .i64 1] 35)) (some ⟨w.heap.size, 0, none⟩) (castE m3) := fun _ => ⟨_, _, rfl, fun i x hx => by
  have hn := World.alloc_heap_new w (.cells #[.int .i64 0, .int .i64 1, .int .i64 1, .int .i64 2, .int .i64 2, .int .i64 1] 35)
  match i, hx with
  | 0, hx => cases hx; exact ⟨cell_of_row _ _ 0 _ _ _ hn, cell_of_row _ _ 1 _ _ _ hn⟩
  | 1, hx => cases hx; exact ⟨cell_of_row _ _ 2 _ _ _ hn, cell_of_row _ _ 3 _ _ _ hn⟩
  | 2, hx => cases hx; exact ⟨cell_of_row _ _ 4 _ _ _ hn, cell_of_row _ _ 5 _ _ _ hn⟩
  | i + 3, hx => simp [castE, m3] at hx⟩

set_option maxRecDepth 100000 in
set_option maxHeartbeats 8000000 in
theorem known_any (w : World) : Calls Try.prog 12 #[] w fun e w' => e = .returned (.bool true) ∧ Below w.heap.size w w' := by
  obtain ⟨w1, hw1⟩ : ∃ w1, w.alloc (.cells #[.int .i64 0, .int .i64 1, .int .i64 1, .int .i64 2, .int .i64 2, .int .i64 1] 35) = w1 := ⟨_, rfl⟩
  have hE := EdgesAt.lit w
  rw [hw1] at hE
  have hb1 : Below w.heap.size w w1 := by rw [← hw1]; exact (Below.refl _ _).alloc (Nat.le_refl _) _
  have hs1 : w1.heap.size = w.heap.size + 1 := by rw [← hw1]; simp
  have hr3 : ∀ e ∈ m3, e.1 < 3 ∧ e.2 < 3 := by decide
  have hrt : rightB 3 (castE m3) = true := by decide
  have HRE := Lib.hid (reach_any 3 1 (some ⟨w.heap.size, 0, none⟩) 3 m3 w1 hE (by decide) (by omega) hr3 hrt (by omega))
  have HE := Lib.hid hE
  have HB1 := Lib.hid hb1
  clear hE hb1
  go_enter Try.func12, Try.ntmps12
  go_wp2_with fail
  refine HRE.out.mono ?_
  rintro e w2 ⟨g2, rfl, hg2, hb2⟩
  have HRI := Lib.hid (rings_any 3 (some ⟨w.heap.size, 0, none⟩) 3 m3 w2 (HE.out.below hb2) (by decide) (by omega) hr3 hrt)
  have HB2 := Lib.hid hb2
  have HG2 := Lib.hid hg2
  clear hb2 hg2 HRE
  go_wp2_with fail
  refine HRI.out.mono ?_
  rintro e w3 ⟨g3, rfl, hg3, hb3⟩
  rw [m3_rings] at hg3
  obtain ⟨w4, hw4⟩ : ∃ w4, w3.alloc (.cells #[.int .i64 0, .int .i64 1, .int .i64 1] 3) = w4 := ⟨_, rfl⟩
  have hb4 : Below w3.heap.size w3 w4 := by rw [← hw4]; exact (Below.refl _ _).alloc (Nat.le_refl _) _
  have hl4 : w4.heap[w3.heap.size]? = some (.cells (valsI [0, 1, 1]).toArray 3 (0, 0)) := by rw [← hw4]; exact World.alloc_heap_new w3 _
  have HSA := Lib.hid (sameints_any [0, 1, 1] [0, 1, 1] (some ⟨g3, 0, none⟩) (some ⟨w3.heap.size, 0, none⟩) 3 3 w4 ((IntsAt.block hg3).below hb4) (IntsAt.block hl4) (by decide) (by decide))
  have hB4 : Below w1.heap.size w1 w4 := HB2.out.trans ((hb3.trans (hb4.mono hb3.size)).mono HB2.out.size)
  have HB4 := Lib.hid hB4
  have HG4 := Lib.hid ((hb4.block _ (by have := hb3.size; have := (Array.getElem?_eq_some_iff.1 HG2.out).1; omega)).trans ((hb3.block _ (Array.getElem?_eq_some_iff.1 HG2.out).1).trans HG2.out))
  clear hb3 hg3 hb4 hl4 HRI hB4
  go_wp2_with fail
  refine HSA.out.mono ?_
  rintro e w5 ⟨rfl, hb5⟩
  rw [show decide True = true from rfl]
  have hB5 : Below w1.heap.size w1 w5 := HB4.out.trans (hb5.mono HB4.out.size)
  have HDE := Lib.hid (depths_any 3 (some ⟨w.heap.size, 0, none⟩) 3 m3 w5 (HE.out.below hB5) (by decide) (by omega) hr3 hrt)
  have HB5 := Lib.hid hB5
  have HG5 := Lib.hid ((hb5.block _ (Array.getElem?_eq_some_iff.1 HG4.out).1).trans HG4.out)
  clear hB5 hb5 HSA hw4
  go_wp2_with fail
  refine HDE.out.mono ?_
  rintro e w6 ⟨g6, rfl, hg6, hb6⟩
  rw [m3_depths] at hg6
  obtain ⟨w7, hw7⟩ : ∃ w7, w6.alloc (.cells #[.int .i64 1, .int .i64 0, .int .i64 0] 3) = w7 := ⟨_, rfl⟩
  have hb7 : Below w6.heap.size w6 w7 := by rw [← hw7]; exact (Below.refl _ _).alloc (Nat.le_refl _) _
  have hl7 : w7.heap[w6.heap.size]? = some (.cells (valsI [1, 0, 0]).toArray 3 (0, 0)) := by rw [← hw7]; exact World.alloc_heap_new w6 _
  have HSA := Lib.hid (sameints_any [1, 0, 0] [1, 0, 0] (some ⟨g6, 0, none⟩) (some ⟨w6.heap.size, 0, none⟩) 3 3 w7 ((IntsAt.block hg6).below hb7) (IntsAt.block hl7) (by decide) (by decide))
  have hB7 : Below w1.heap.size w1 w7 := HB5.out.trans ((hb6.trans (hb7.mono hb6.size)).mono HB5.out.size)
  have HB7 := Lib.hid hB7
  have HG7 := Lib.hid ((hb7.block _ (by have := hb6.size; have := (Array.getElem?_eq_some_iff.1 HG5.out).1; omega)).trans ((hb6.block _ (Array.getElem?_eq_some_iff.1 HG5.out).1).trans HG5.out))
  clear hb6 hg6 hb7 hl7 HDE hB7
  go_wp2_with fail
  refine HSA.out.mono ?_
  rintro e w8 ⟨rfl, hb8⟩
  rw [show decide True = true from rfl]
  have hB8 : Below w1.heap.size w1 w8 := HB7.out.trans (hb8.mono HB7.out.size)
  have HB8 := Lib.hid hB8
  have hg8 := (hb8.block _ (Array.getElem?_eq_some_iff.1 HG7.out).1).trans HG7.out
  rw [m3_reach] at hg8
  have c0 : w8.cell? ⟨g2, 0, none⟩ = some (.bool false) := cell_of_row _ _ 0 _ _ _ hg8
  have c2 : w8.cell? ⟨g2, 2, none⟩ = some (.bool true) := cell_of_row _ _ 2 _ _ _ hg8
  clear hb8 HSA hw7 hg8
  go_wp2_with fail
  go_ret
  exact ⟨rfl, HB1.out.trans (HB8.out.mono (by omega))⟩
end Go.Proofs.Yteigepblocbnlaa.Gp
