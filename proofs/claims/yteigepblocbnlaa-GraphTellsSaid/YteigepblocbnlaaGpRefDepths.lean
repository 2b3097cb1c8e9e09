/-
  The contract of the document's own Depths.
-/
import Derived.Test.YteigepblocbnlaaGpRefRings
namespace Go.Proofs.Yteigepblocbnlaa.Gp
open Go Go.RowKit Go.Shelf Go.Proofs
attribute [local go_sem] Oper.semAt_some

theorem Deep.le2 {A : List (List Nat)} {n : Nat} {d e : Nat → Nat} (h : Deep A n d) (kr : ∀ x y, Mut A n x y → e x = e y) (ko : ∀ x y, x < n → y < n → y ∈ row A x → ¬ Mut A n x y → e y < e x) : ∀ N x, x < n → d x ≤ N → d x ≤ e x := by
  intro N
  induction N with
  | zero => intro x _ h0; omega
  | succ N ih =>
    intro x hx hN
    rcases h.by1 x hx with h0 | ⟨x', y, m, hy, he, hne, h1⟩
    · omega
    · have a1 := ih y hy (by omega)
      have a2 := kr x x' m
      have a3 := ko x' y m.1.lt.2 hy he (fun m2 => hne (m.trans m2))
      omega
theorem DT_bound {N : Nat} {m : List EN} (h : ∀ e ∈ m, e.1 < N ∧ e.2 < N) : ∃ D : Nat → Nat, Deep (adjT N m) N D ∧ DT N m = (List.range N).map D ∧ ∀ x, x < N → D x ≤ N := by
  obtain ⟨D, h1, h2, _⟩ := DT_deep h
  refine ⟨D, h1, h2, fun x hx => ?_⟩
  have hb := depthsT_in (adjT N m) (ringsN N m) (List.replicate N (-1)) (-1) (by omega) (in_new N) x
  have hl : (ringsN N m).length ≤ N := ringsOf_length _ _ N
  have e : (DT N m)[x]? = some (D x) := by rw [h2]; simp [hx]
  unfold DT at e
  rw [List.getElem?_map] at e
  have hb2 : (DZ N m).getD x (-1) ≤ -1 + (ringsN N m).length := hb.2
  cases hz : (DZ N m)[x]? with
  | none => rw [hz] at e; cases e
  | some z =>
    rw [hz] at e
    rw [List.getD_eq_getElem?_getD, hz] at hb2
    have e2 : z.toNat = D x := Option.some.inj e
    have hb3 : z ≤ -1 + ((ringsN N m).length : Int) := hb2
    omega
/-- What is told of a place. -/
def dn (d : List Nat) (x : Nat) : Nat := d.getD x 0
theorem dn_get {d : List Nat} {x : Nat} (h : x < d.length) : d[x]? = some (dn d x) := by unfold dn; rw [List.getD_eq_getElem?_getD, List.getElem?_eq_getElem h]; rfl
theorem dn_set {d : List Nat} {a v x : Nat} (h : a < d.length) : dn (d.set a v) x = if x = a then v else dn d x := by
  unfold dn
  by_cases e : x = a
  · subst e; simp [List.getD, h]
  · have hne : a ≠ x := fun e' => e e'.symm
    simp [List.getD, List.getElem?_set_ne hne, e]
/-- How much is left to be told. -/
def pot (D : Nat → Nat) (d : List Nat) : Nat → Nat
  | 0 => 0
  | n + 1 => pot D d n + (D n - dn d n)
theorem pot_set {D : Nat → Nat} {d : List Nat} {a v : Nat} (ha : a < d.length) (h1 : dn d a < v) (h2 : v ≤ D a) : ∀ n, pot D (d.set a v) n + (if a < n then 1 else 0) ≤ pot D d n := by
  intro n
  induction n with
  | zero => simp [pot]
  | succ n ih =>
    unfold pot
    rw [dn_set ha]
    by_cases e : n = a
    · subst e
      rw [if_neg (Nat.lt_irrefl _)] at ih
      rw [if_pos rfl, if_pos (Nat.lt_succ_self _)]
      omega
    · rw [if_neg e]
      by_cases h : a < n
      · rw [if_pos h] at ih; rw [if_pos (by omega)]; omega
      · rw [if_neg h] at ih; rw [if_neg (by omega)]; omega
def Dk (N : Nat) (D : Nat → Nat) (d : List Nat) : Prop := d.length = N ∧ ∀ x, x < N → dn d x ≤ D x
structure InnD (N : Nat) (m : List EN) (R D : Nat → Nat) (d0 d : List Nat) (more : Bool) (k : Nat) : Prop where
  ok : Dk N D d
  same : more = false → d = d0 ∧ ∀ (j : Nat) (e : EN), j < k → m[j]? = some e → R e.1 ≠ R e.2 → dn d (R e.2) < dn d (R e.1)
  fewer : more = true → pot D d N < pot D d0 N
theorem InnD.start {N : Nat} {m : List EN} {R D : Nat → Nat} {d : List Nat} (h : Dk N D d) : InnD N m R D d d false 0 := ⟨h, fun _ => ⟨rfl, fun _ _ hj => absurd hj (Nat.not_lt_zero _)⟩, fun h => by cases h⟩
theorem InnD.no {N : Nat} {m : List EN} {R D : Nat → Nat} {d0 d : List Nat} {more : Bool} {k : Nat} {e : EN} (h : InnD N m R D d0 d more k) (he : m[k]? = some e) (hno : R e.1 ≠ R e.2 → dn d (R e.2) < dn d (R e.1)) : InnD N m R D d0 d more (k + 1) :=
  ⟨h.ok, fun hm => ⟨(h.same hm).1, fun j e' hj he' h1 => by
    rcases Nat.lt_or_ge j k with hlt | hge
    · exact (h.same hm).2 j e' hlt he' h1
    · obtain rfl : j = k := by omega
      rw [he] at he'; cases he'
      exact hno h1⟩, h.fewer⟩
theorem InnD.yes {N : Nat} {m : List EN} {R D : Nat → Nat} {d0 d : List Nat} {more : Bool} {k : Nat} {e : EN} (hm : ∀ e ∈ m, e.1 < N ∧ e.2 < N) (hR : ∀ x, x < N → IsLeast (adjT N m) N x (R x)) (hD : Deep (adjT N m) N D) (h : InnD N m R D d0 d more k) (he : m[k]? = some e)
    (h1 : R e.1 ≠ R e.2) (h2 : dn d (R e.1) ≤ dn d (R e.2)) : InnD N m R D d0 (d.set (R e.1) (dn d (R e.2) + 1)) true (k + 1) ∧ dn d (R e.2) + 1 ≤ D (R e.1) := by
  have hl := h.ok.1
  have hem := hm e (List.mem_of_getElem? he)
  have m1 := (hR e.1 hem.1).1
  have m2 := (hR e.2 hem.2).1
  have a1 : R e.1 < d.length := by rw [hl]; exact m1.1.lt.2
  have a2 : R e.2 < N := m2.1.lt.2
  have nm : ¬ Mut (adjT N m) N e.1 e.2 := fun w => h1 (((hR e.1 hem.1).same w).uniq (hR e.2 hem.2))
  have o1 := hD.out e.1 e.2 hem.1 hem.2 ((adj_iff hm _ _).2 (List.mem_of_getElem? he)) nm
  have o2 := hD.ring _ _ m1
  have o3 := hD.ring _ _ m2
  have o4 := h.ok.2 _ a2
  have hv : dn d (R e.2) + 1 ≤ D (R e.1) := by omega
  refine ⟨⟨⟨by rw [List.length_set]; exact hl, fun x hx => ?_⟩, (fun h => by cases h), fun _ => ?_⟩, hv⟩
  · rw [dn_set a1]
    by_cases e1 : x = R e.1
    · rw [if_pos e1, e1]; exact hv
    · rw [if_neg e1]; exact h.ok.2 x hx
  · have hp := pot_set (D := D) (v := dn d (R e.2) + 1) a1 (by omega) hv N
    rw [if_pos (by omega)] at hp
    cases hmo : more with
    | true => have := h.fewer hmo; omega
    | false => have := (h.same hmo).1; rw [← this]; omega
theorem InnD.done {N : Nat} {m : List EN} {R D : Nat → Nat} {d0 d : List Nat} (hm : ∀ e ∈ m, e.1 < N ∧ e.2 < N) (hR : ∀ x, x < N → IsLeast (adjT N m) N x (R x)) (hD : Deep (adjT N m) N D) (h : InnD N m R D d0 d false m.length) : ∀ x, x < N → dn d (R x) = D x := by
  intro x hx
  have m1 := (hR x hx).1
  refine Nat.le_antisymm (by rw [hD.ring _ _ m1]; exact h.ok.2 _ m1.1.lt.2) ?_
  refine Deep.le2 (e := fun x => dn d (R x)) hD ?_ ?_ (D x) x hx (Nat.le_refl _)
  · intro a b w
    show dn d (R a) = dn d (R b)
    rw [((hR a w.1.lt.1).same w).uniq (hR b w.1.lt.2)]
  · intro a b ha hb e nm
    obtain ⟨j, hj⟩ := List.mem_iff_getElem?.1 ((adj_iff hm a b).1 e)
    refine (h.same rfl).2 j (a, b) (List.getElem?_eq_some_iff.1 hj).1 hj fun e2 => nm ?_
    exact Mut.trans (hR a ha).1 (by rw [e2]; exact Mut.symm (hR b hb).1)

set_option maxRecDepth 100000 in
set_option maxHeartbeats 16000000 in
theorem refdepths_bad (n : Int) (A : Option Addr) (c : Nat) (l : List EI) (w : World) (hl : EdgesAt w A l) (hm : l.length ≤ 100000) (hr : rightB n l = false) :
    Calls Try.prog 21 #[.int .i64 n, .slice A l.length c] w fun e w' => e = .returned (.slice none 0 0) ∧ w' = w := by
  have HRR := Lib.hid (refright_any n A c l w hl (by omega))
  rw [hr] at HRR
  clear hr
  go_enter Try.func21, Try.ntmps21
  go_wp2_with fail
  refine HRR.out.mono ?_
  rintro e w1 ⟨rfl, hw1⟩
  have hw1 := hw1.symm; subst hw1
  go_wp2_with fail
  go_ret
  exact ⟨rfl, rfl⟩
end Go.Proofs.Yteigepblocbnlaa.Gp
