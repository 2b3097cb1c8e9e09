/-
  How much there may be behind each thing that is done. Plain.
-/
import Derived.Test.YtojkifcclgecoaaDkPlain
namespace Go.Proofs.Ytojkifcclgecoaa.Dk
open Go

theorem mem_modify {α : Type} {f : α → α} : ∀ {l : List α} {i : Nat} {x : α}, x ∈ l.modify i f → x ∈ l ∨ ∃ y, l[i]? = some y ∧ x = f y := by
  intro l i x hx
  obtain ⟨j, hj⟩ := List.mem_iff_getElem?.1 hx
  rw [List.getElem?_modify] at hj
  cases h : l[j]? with
  | none => rw [h] at hj; cases hj
  | some y =>
    rw [h] at hj
    by_cases e : i = j
    · subst e
      simp at hj
      exact .inr ⟨y, h, hj.symm⟩
    · simp [e] at hj
      subst hj
      exact .inl (List.mem_of_getElem? h)
theorem after_parts (d : DDk) (n : Nat) : (d.after n).as = d.as ∧ (d.after n).room = d.room := by
  unfold DDk.after
  cases d.pw <;> exact ⟨rfl, rfl⟩
theorem after_fits' {d : DDk} {m : Nat} (h : d.fits m) (n : Nat) : (d.after n).fits m := by
  obtain ⟨e3, e4⟩ := after_parts d n
  refine ⟨by rw [e3]; exact h.1, by rw [e4]; exact h.2.1, fun k hk => ?_, by rw [e3]; exact h.2.2.2⟩
  unfold DDk.after at hk
  cases hp : d.pw with
  | none => rw [hp] at hk; simp only [hp] at hk; cases hk
  | some q => rw [hp] at hk; cases hk; have := h.2.2.1 q hp; omega
theorem add_fits {d : DDk} {n : Nat} (h : d.fits n) (a : Nat) (s : List DSt) : (d.add a s).fits (n + s.length) := by
  refine ⟨?_, h.2.1, h.2.2.1, fun x hx => ?_⟩
  · show (addAt d.as a s).length ≤ 8
    unfold addAt; rw [List.length_modify]; exact h.1
  · rcases mem_modify (show x ∈ d.as.modify a _ from hx) with h1 | ⟨y, h1, rfl⟩
    · have := h.2.2.2 x h1; omega
    · have := h.2.2.2 y (List.mem_of_getElem? h1)
      simp; omega
theorem appendD_fits {d : DDk} {n : Nat} (h : d.fits n) (a : Int) (b : List UInt8) : (appendD d a b).fits (n + b.length) := by
  unfold appendD
  split
  · exact h.mono (by omega)
  · split
    · exact h.mono (by omega)
    · exact (add_fits (after_fits' h _) _ _).mono (by rw [List.length_map, List.length_take]; omega)
theorem cutD_fits {d : DDk} {n : Nat} (h : d.fits n) (a k : Int) : (cutD d a k).fits (n + 1) := by
  unfold cutD
  split
  · exact h.mono (by omega)
  · split
    · exact h.mono (by omega)
    · exact (add_fits (after_fits' h _) _ _).mono (by split <;> simp)
theorem settle_fits {d : DDk} {n : Nat} (h : d.fits n) (a : Nat) : (d.settle a).fits n := by
  refine ⟨?_, h.2.1, h.2.2.1, fun x hx => ?_⟩
  · show (d.as.modify a _).length ≤ 8
    rw [List.length_modify]; exact h.1
  · rcases mem_modify (show x ∈ d.as.modify a _ from hx) with h1 | ⟨y, h1, rfl⟩
    · exact h.2.2.2 x h1
    · have := h.2.2.2 y (List.mem_of_getElem? h1)
      have := y.now_length
      simp; omega
theorem syncD_fits {d : DDk} {n : Nat} (h : d.fits n) (a : Int) : (syncD d a).fits n := by
  unfold syncD
  split
  · exact h
  · unfold DDk.sync
    split
    · exact settle_fits (after_fits' h _) _
    · exact after_fits' h _
theorem arm_fits {d : DDk} {n : Nat} (h : d.fits n) (k : Int) : (d.arm k).fits n := by
  unfold DDk.arm
  split
  · exact h
  · exact ⟨h.1, h.2.1, fun q hq => (by cases hq; omega), h.2.2.2⟩
theorem restart_fits {d : DDk} {n : Nat} (h : d.fits n) (k : Int) : (d.restart k).fits n := by
  refine ⟨?_, h.2.1, fun q hq => (by cases hq), fun x hx => ?_⟩
  · show (d.as.map _).length ≤ 8
    rw [List.length_map]; exact h.1
  · obtain ⟨y, hy, rfl⟩ := List.mem_map.1 (show x ∈ d.as.map _ from hx)
    have := h.2.2.2 y hy
    have h2 := runS_length (y.p.take k.toNat) y.l
    rw [List.length_take] at h2
    show (runS y.l (y.p.take k.toNat)).length + 0 ≤ n
    omega
theorem new_fits (a r : Int) : (DDk.new a r).fits 0 := by
  refine ⟨?_, ?_, fun q hq => (by cases hq), fun x hx => ?_⟩
  · show (List.replicate _ _).length ≤ 8
    rw [List.length_replicate]; omega
  · show (min (max r 0) 4194304).toNat ≤ 4194304
    omega
  · obtain rfl := (List.mem_replicate.1 hx).2
    exact Nat.le_refl _
end Go.Proofs.Ytojkifcclgecoaa.Dk
