/-
  The law GraphTells.
-/
import Derived.Test.YteigepblocbnlaaGpRefDepths2
import Derived.Test.YteigepblocbnlaaGpReach
import Derived.Test.YteigepblocbnlaaGpKnown
namespace Go.Proofs.Yteigepblocbnlaa.Gp
open Go Go.RowKit Go.Shelf Go.Proofs
attribute [local go_sem] Oper.semAt_some

theorem DT_len {N : Nat} {m : List EN} (h : ∀ e ∈ m, e.1 < N ∧ e.2 < N) : (DT N m).length = N := by
  obtain ⟨D, _, e, _⟩ := DT_deep h
  rw [e]; simp
/-- The slice value .slice A n c shows the bools l. -/
def ShowB (w : World) (A : Option Addr) (l : List Bool) : Prop := 0 < l.length → ∃ g, A = some ⟨g, 0, none⟩ ∧ ∀ (i : Nat) (b : Bool), l[i]? = some b → w.cell? ⟨g, i, none⟩ = some (.bool b)
theorem ShowB.below {w w' : World} {A : Option Addr} {l : List Bool} (h : ShowB w A l) (hb : Below w.heap.size w w') : ShowB w' A l := fun hn => by
  obtain ⟨g, e, hc⟩ := h hn
  refine ⟨g, e, fun i x hx => ?_⟩
  have h1 := hc i x hx
  have hl : g < w.heap.size := World.block_lt_of_cell? w (a := ⟨g, i, none⟩) h1
  exact (World.cell?_of_block (a := ⟨g, i, none⟩) (hb.block g hl)).trans h1
theorem ShowB.block {w : World} {g : Nat} {l : List Bool} (h : w.heap[g]? = some (.cells (cellsB l) 4 (0, 0))) : ShowB w (some ⟨g, 0, none⟩) l := fun _ => ⟨g, rfl, fun _i _b hb => (cell_of_row _ _ _ _ _ _ h).trans (cellsB_get hb)⟩
theorem ShowB.nil (w : World) (A : Option Addr) : ShowB w A [] := fun h => absurd h (by simp)
def TellN (L : List Nat) (w : World) (e : Ending) (w' : World) : Prop := ∃ A' c', e = .returned (.slice A' L.length c') ∧ IntsAt w' A' L ∧ Below w.heap.size w w'
def TellB (L : List Bool) (w : World) (e : Ending) (w' : World) : Prop := ∃ A' c', e = .returned (.slice A' L.length c') ∧ ShowB w' A' L ∧ Below w.heap.size w w'
theorem tells_ok (n : Int) (A : Option Addr) (c : Nat) (l : List EI) (hm : l.length ≤ 100000) : ∃ Lr Ld : List Nat, Lr.length ≤ 2000 ∧ Ld.length ≤ 2000 ∧
    (∀ w, EdgesAt w A l → Calls Try.prog 18 #[.int .i64 n, .slice A l.length c] w (TellN Lr w)) ∧
    (∀ w, EdgesAt w A l → Calls Try.prog 19 #[.int .i64 n, .slice A l.length c] w (TellN Lr w)) ∧
    (∀ w, EdgesAt w A l → Calls Try.prog 20 #[.int .i64 n, .slice A l.length c] w (TellN Ld w)) ∧
    (∀ w, EdgesAt w A l → Calls Try.prog 21 #[.int .i64 n, .slice A l.length c] w (TellN Ld w)) := by
  cases hr : rightB n l with
  | false =>
    refine ⟨[], [], by simp, by simp, fun w h => ?_, fun w h => ?_, fun w h => ?_, fun w h => ?_⟩
    · exact (rings_bad n A c l w h hm hr).mono fun e w' he => ⟨none, 0, he.1, IntsAt.nil _ _, he.2⟩
    · exact (refrings_bad n A c l w h hm hr).mono fun e w' he => ⟨none, 0, he.1, IntsAt.nil _ _, by rw [he.2]; exact Below.refl _ _⟩
    · exact (depths_bad n A c l w h hm hr).mono fun e w' he => ⟨none, 0, he.1, IntsAt.nil _ _, he.2⟩
    · exact (refdepths_bad n A c l w h hm hr).mono fun e w' he => ⟨none, 0, he.1, IntsAt.nil _ _, by rw [he.2]; exact Below.refl _ _⟩
  | true =>
    obtain ⟨N, m, rfl, rfl, hN, hmm⟩ := right_nats hr
    rw [castE_length] at hm ⊢
    refine ⟨RT N m, DT N m, by rw [RT_length]; exact hN, by rw [DT_len hmm]; exact hN, fun w h => ?_, fun w h => ?_, fun w h => ?_, fun w h => ?_⟩
    · refine (rings_any N A c m w h hm hN hmm hr).mono fun e w' he => ?_
      obtain ⟨g, he, hg, hb⟩ := he
      exact ⟨_, N, by rw [RT_length]; exact he, IntsAt.block hg, hb⟩
    · refine (refrings_any N A c m w h hm hN hmm hr).mono fun e w' he => ?_
      obtain ⟨A', c', he, hO, hb⟩ := he
      exact ⟨A', c', by rw [RT_length]; exact he, hO.slice.2.1, hb⟩
    · refine (depths_any N A c m w h hm hN hmm hr).mono fun e w' he => ?_
      obtain ⟨g, he, hg, hb⟩ := he
      exact ⟨_, N, by rw [DT_len hmm]; exact he, IntsAt.block hg, hb⟩
    · refine (refdepths_any N A c m w h hm hN hmm hr).mono fun e w' he => ?_
      obtain ⟨A', c', he, hO, hb⟩ := he
      exact ⟨A', c', by rw [DT_len hmm]; exact he, hO.slice.2.1, hb⟩
theorem tells_reach (n f : Int) (A : Option Addr) (c : Nat) (l : List EI) (hm : l.length ≤ 100000) : ∃ Lc : List Bool, Lc.length ≤ 2000 ∧
    (∀ w, EdgesAt w A l → Calls Try.prog 13 #[.int .i64 n, .int .i64 f, .slice A l.length c] w (TellB Lc w)) ∧
    (∀ w, EdgesAt w A l → Calls Try.prog 14 #[.int .i64 n, .int .i64 f, .slice A l.length c] w (TellB Lc w)) := by
  cases hr : (rightB n l && endB n f) with
  | false =>
    refine ⟨[], by simp, fun w h => ?_, fun w h => ?_⟩
    · exact (reach_bad n f A c l w h hm hr).mono fun e w' he => ⟨none, 0, he.1, ShowB.nil _ _, he.2⟩
    · exact (refreach_bad n f A c l w h hm hr).mono fun e w' he => ⟨none, 0, he.1, ShowB.nil _ _, by rw [he.2]; exact Below.refl _ _⟩
  | true =>
    rw [Bool.and_eq_true] at hr
    obtain ⟨hr, hf⟩ := hr
    obtain ⟨N, m, rfl, rfl, hN, hmm⟩ := right_nats hr
    unfold endB at hf
    simp only [Bool.and_eq_true, decide_eq_true_eq] at hf
    obtain ⟨F, rfl⟩ : ∃ F : Nat, f = (F : Int) := ⟨f.toNat, by omega⟩
    have hF : F < N := by omega
    rw [castE_length] at hm ⊢
    refine ⟨RC N m F, by rw [RC_length]; exact hN, fun w h => ?_, fun w h => ?_⟩
    · refine (reach_any N F A c m w h hm hN hmm hr hF).mono fun e w' he => ?_
      obtain ⟨g, he, hg, hb⟩ := he
      exact ⟨_, N, by rw [RC_length]; exact he, ShowB.block hg, hb⟩
    · refine (refreach_any N F A c m w h hm hN hmm hr hF).mono fun e w' he => ?_
      obtain ⟨g, he, hg, hb, _⟩ := he
      exact ⟨_, N, by rw [RC_length]; exact he, ShowB.block hg, hb⟩
end Go.Proofs.Yteigepblocbnlaa.Gp
