/-
  The contract of the closure in path.parted at strings: rows of items, one for each pattern; what failed is kept.
-/
import Derived.Test.YtcnifjjdnomgpaaDoorPartedNS
import Derived.Test.YtcnifjjdnomgpaaDoorPartedMS
import Derived.Test.YtcnifjjdnomgpaaDoorPartedLS
import Derived.Deep.RegionHeld3
import Derived.BigQuiet
import Derived.Laws.EntriesVeiled
import Derived.Maps.OwnSet
import Derived.Deep.QuietTactic
namespace Go.Proofs.YtcnifjjdnomgpaaDoor
open Go Go.RowKit Go.Shelf Go.Proofs

theorem from_allS (C : Caught) (many : Bs → Bool) (one : Bs → Bs → Bool) (ps is : List Bs) (hps : ps.length ≤ 100000) (his : is.length ≤ 100000) (hcp : C.cp ≤ 9223372036854775807) (hci : C.ci ≤ 9223372036854775807)
    (em : ∀ args w, (callFunc C.gm args).run Tryd.prog w = .ok (.enter C.gm args) w) (eo : ∀ args w, (callFunc C.go args).run Tryd.prog w = .ok (.enter C.go args) w) (hmany : ManyS C.gm many) (hone : OneS C.go one) (hokp : ∀ x ∈ ps, x.length ≤ 100) (hoki : ∀ x ∈ is, x.length ≤ 100) (k : Nat) :
    ∀ i j, (ps.length - i) + (is.length - j) ≤ k → i ≤ ps.length → j ≤ is.length → FromSpecS C many one ps is i j := by
  have last : ∀ i j, i = ps.length → j ≤ is.length → FromSpecS C many one ps is i j := by
    rintro i j rfl hj
    exact from_endS C many one ps is hps his hcp hci j hj
  induction k with
  | zero => exact fun i j h hi hj => last i j (by omega) hj
  | succ k ih =>
    intro i j h hi hj
    by_cases h1 : i = ps.length
    · exact last i j h1 hj
    · have hlt : i < ps.length := by omega
      have hpe : ps[i]? = some ps[i] := List.getElem?_eq_getElem hlt
      by_cases h2 : j = is.length
      · subst h2
        cases hm : many ps[i] with
        | false => exact from_noS C many one ps is hps his hcp hci em hmany hokp i _ hpe hm
        | true => exact from_many0S C many one ps is hps his hcp hci em hmany hokp i _ hpe hm (ih _ _ (by omega) (by omega) (by omega))
      · have hlj : j < is.length := by omega
        have hye : is[j]? = some is[j] := List.getElem?_eq_getElem hlj
        cases hm : many ps[i] with
        | true => exact from_many1S C many one ps is hps his hcp hci em hmany hokp i j _ _ hpe hye hm (ih _ _ (by omega) (by omega) (by omega)) (ih _ _ (by omega) (by omega) (by omega))
        | false =>
          cases ho : one ps[i] is[j] with
          | false => exact from_one_falseS C many one ps is hps his hcp hci em eo hmany hone hokp hoki i j _ _ hpe hye hm ho
          | true => exact from_one_trueS C many one ps is hps his hcp hci em eo hmany hone hokp hoki i j _ _ hpe hye hm ho (ih _ _ (by omega) (by omega) (by omega))

set_option maxRecDepth 100000 in
set_option maxHeartbeats 2000000 in
theorem partedS_any (gm go : Nat) (many : Bs → Bool) (one : Bs → Bs → Bool) (ps is : List Bs) (ap ai : Option Addr) (cp ci : Nat) (w : World) (hps : ps.length ≤ 100000) (his : is.length ≤ 100000) (hcp : cp ≤ 9223372036854775807) (hci : ci ≤ 9223372036854775807)
    (em : ∀ args w, (callFunc gm args).run Tryd.prog w = .ok (.enter gm args) w) (eo : ∀ args w, (callFunc go args).run Tryd.prog w = .ok (.enter go args) w) (hmany : ManyS gm many) (hone : OneS go one) (hokp : ∀ x ∈ ps, x.length ≤ 100) (hoki : ∀ x ∈ is, x.length ≤ 100)
    (hrp : Reads strV w ap ps) (hri : Reads strV w ai is) :
    Calls Tryd.prog 38 #[.slice ap ps.length cp, .slice ai is.length ci, .func (.func gm) #[] #[], .func (.func go) #[] #[]] w fun e w' => e = .returned (.bool (partedB many one ps is)) ∧ Below w.heap.size w w' := by
  have hmm := @run_makeMap Tryd.prog
  go_enter Tryd.func38, Tryd.ntmps38
  go_wp2_with fail
  obtain ⟨W0, hW0⟩ : ∃ W0, (((((((w.alloc (.cells #[.slice ap ps.length cp] 50)).alloc (.cells #[.slice ai is.length ci] 50)).alloc (.cells #[.func (.func gm) #[] #[]] 23)).alloc (.cells #[.func (.func go) #[] #[]] 24)).alloc (.map #[] 0)).alloc (.cells #[.map (some (w.heap.size + 4))] 77)).alloc (.cells #[.func (.func 66) #[] #[.pointer (some ⟨w.heap.size, 0, none⟩), .pointer (some ⟨w.heap.size + 1, 0, none⟩), .pointer (some ⟨w.heap.size + 2, 0, none⟩), .pointer (some ⟨w.heap.size + 3, 0, none⟩), .pointer (some ⟨w.heap.size + 6, 0, none⟩), .pointer (some ⟨w.heap.size + 5, 0, none⟩)]] 78)) = W0 := ⟨_, rfl⟩
  have hB0 : Below w.heap.size w W0 := by
    rw [← hW0]; exact (((((((Below.refl _ w).alloc (Nat.le_refl _) _).alloc (by simp) _).alloc (by simp; omega) _).alloc (by simp; omega) _).alloc (by simp; omega) _).alloc (by simp; omega) _).alloc (by simp; omega) _
  have hlt0 : w.heap.size + 4 < W0.heap.size := by rw [← hW0]; simp
  have x0 : Boxed W0 (w.heap.size) 50 (.slice ap ps.length cp) := by
    rw [← hW0]; have := Boxed.new w 50 (.slice ap ps.length cp); (try simp only [World.size_alloc] at this); exact ((((((this.alloc _).alloc _).alloc _).alloc _).alloc _).alloc _)
  have x1 : Boxed W0 (w.heap.size + 1) 50 (.slice ai is.length ci) := by
    rw [← hW0]; have := Boxed.new (w.alloc (.cells #[.slice ap ps.length cp] 50)) 50 (.slice ai is.length ci); (try simp only [World.size_alloc] at this); exact (((((this.alloc _).alloc _).alloc _).alloc _).alloc _)
  have x2 : Boxed W0 (w.heap.size + 2) 23 (.func (.func gm) #[] #[]) := by
    rw [← hW0]; have := Boxed.new ((w.alloc (.cells #[.slice ap ps.length cp] 50)).alloc (.cells #[.slice ai is.length ci] 50)) 23 (.func (.func gm) #[] #[]); (try simp only [World.size_alloc] at this); exact ((((this.alloc _).alloc _).alloc _).alloc _)
  have x3 : Boxed W0 (w.heap.size + 3) 24 (.func (.func go) #[] #[]) := by
    rw [← hW0]; have := Boxed.new (((w.alloc (.cells #[.slice ap ps.length cp] 50)).alloc (.cells #[.slice ai is.length ci] 50)).alloc (.cells #[.func (.func gm) #[] #[]] 23)) 24 (.func (.func go) #[] #[]); (try simp only [World.size_alloc] at this); exact (((this.alloc _).alloc _).alloc _)
  have x5 : Boxed W0 (w.heap.size + 5) 77 (.map (some (w.heap.size + 4))) := by
    rw [← hW0]; have := Boxed.new (((((w.alloc (.cells #[.slice ap ps.length cp] 50)).alloc (.cells #[.slice ai is.length ci] 50)).alloc (.cells #[.func (.func gm) #[] #[]] 23)).alloc (.cells #[.func (.func go) #[] #[]] 24)).alloc (.map #[] 0)) 77 (.map (some (w.heap.size + 4))); (try simp only [World.size_alloc] at this); exact (this.alloc _)
  have x6 : Boxed W0 (w.heap.size + 6) 78 (.func (.func 66) #[] #[.pointer (some ⟨w.heap.size, 0, none⟩), .pointer (some ⟨w.heap.size + 1, 0, none⟩), .pointer (some ⟨w.heap.size + 2, 0, none⟩), .pointer (some ⟨w.heap.size + 3, 0, none⟩), .pointer (some ⟨w.heap.size + 6, 0, none⟩), .pointer (some ⟨w.heap.size + 5, 0, none⟩)]) := by
    rw [← hW0]; have := Boxed.new ((((((w.alloc (.cells #[.slice ap ps.length cp] 50)).alloc (.cells #[.slice ai is.length ci] 50)).alloc (.cells #[.func (.func gm) #[] #[]] 23)).alloc (.cells #[.func (.func go) #[] #[]] 24)).alloc (.map #[] 0)).alloc (.cells #[.map (some (w.heap.size + 4))] 77)) 78 (.func (.func 66) #[] #[.pointer (some ⟨w.heap.size, 0, none⟩), .pointer (some ⟨w.heap.size + 1, 0, none⟩), .pointer (some ⟨w.heap.size + 2, 0, none⟩), .pointer (some ⟨w.heap.size + 3, 0, none⟩), .pointer (some ⟨w.heap.size + 6, 0, none⟩), .pointer (some ⟨w.heap.size + 5, 0, none⟩)]); (try simp only [World.size_alloc] at this); exact this
  have hF0 : FailedD W0 (w.heap.size + 4) ps.length is.length (badS many one ps is) (.map []) := by
    rw [← hW0]
    have := FailedD.made ((((w.alloc (.cells #[.slice ap ps.length cp] 50)).alloc (.cells #[.slice ai is.length ci] 50)).alloc (.cells #[.func (.func gm) #[] #[]] 23)).alloc (.cells #[.func (.func go) #[] #[]] 24)) ps.length is.length (badS many one ps is)
    simp only [World.size_alloc] at this
    exact (this.kept (World.grownBy_alloc _ _ none) (by simp)).kept (World.grownBy_alloc _ _ none) (by simp)
  have hsame : ∀ b j v, w.cell? ⟨b, j, none⟩ = some v → W0.cell? ⟨b, j, none⟩ = some v := fun b j v h => (hB0.cell (p := ⟨b, j, none⟩) (World.block_lt_of_cell? w ⟨b, j, none⟩ h)).trans h
  rw [hW0]
  clear hW0
  have hC : CaughtS ⟨w.heap.size, w.heap.size + 1, w.heap.size + 2, w.heap.size + 3, w.heap.size + 6, w.heap.size + 5, w.heap.size + 4, ap, cp, ai, ci, gm, go⟩ ps is W0 :=
    ⟨x0, fun j x h => by obtain ⟨b, hA, hc⟩ := hrp j x h; exact ⟨b, hA, hsame _ _ _ hc⟩, x1, fun j x h => by obtain ⟨b, hA, hc⟩ := hri j x h; exact ⟨b, hA, hsame _ _ _ hc⟩, x2, x3, x6, x5, hF0.isMap⟩
  refine (from_allS _ many one ps is hps his hcp hci em eo hmany hone hokp hoki _ 0 0 (Nat.le_refl _) (Nat.zero_le _) (Nat.zero_le _) 0 0 W0 _ rfl rfl hC hF0).mono ?_
  rintro e W1 ⟨rfl, hg1, _⟩
  rw [List.drop_zero, List.drop_zero]
  have hB1 : Below w.heap.size w W1 := hB0.grown hg1 hB0.size (fun k e => by cases e; show w.heap.size ≤ w.heap.size + 4; omega)
  clear hg1 hC hF0 x0 x1 x2 x3 x5 x6 hB0 hsame hmm
  go_wp2_with fail
  go_ret
  exact ⟨rfl, hB1⟩

end Go.Proofs.YtcnifjjdnomgpaaDoor
