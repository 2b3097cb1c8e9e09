/-
  slices.Clone of a tree; tree.Drop, tree.Put.
-/
import Derived.Test.YtedcaodbcognjaaDoorTOwnAll
namespace Go.Proofs.YtedcaodbcognjaaDoor
open Go Go.RowKit Go.Shelf Go.Proofs

theorem treeAt_cells {w : World} {A : Option Addr} {c : Nat} {l : List FX} (h : TreeAt w A c l) {a : Addr} (hA : A = some a) : ∀ j u, (fcells l)[j]? = some u → w.cell? (a.add j) = some u := by
  intro j u hu
  have hjl := (List.getElem?_eq_some_iff.1 hu).1
  rw [fcells_length] at hjl
  obtain ⟨g, o, e, hr⟩ := h.row (by omega)
  rw [hA] at e
  cases e
  rw [Go.WideShapes.add_plain]
  obtain ⟨x, hx⟩ : ∃ x, l[j / 2]? = some x := ⟨_, List.getElem?_eq_getElem (by omega)⟩
  obtain ⟨c1, c2⟩ := hr _ x hx
  obtain ⟨f1, f2⟩ := fcells_at l _ x hx
  rcases Nat.mod_two_eq_zero_or_one j with e | e
  · rw [show j / 2 * 2 = j from by omega] at c1 f1
    rw [c1, ← f1, hu]
  · rw [show o + j / 2 * 2 + 1 = o + j from by omega] at c2
    rw [show j / 2 * 2 + 1 = j from by omega] at f2
    rw [c2, ← f2, hu]

set_option maxHeartbeats 1000000 in
theorem clone_any (l : List FX) (A : Option Addr) (c : Nat) (w : World) (h : TreeAt w A c l) (hl : l.length ≤ 100000) :
    Calls Tryd.prog 27 #[.slice A l.length c] w fun e w' => ∃ v', e = .returned v' ∧ FilesOwn w.heap.size w' v' l ∧ Below w.heap.size w w' := by
  obtain ⟨i0, hi, hz0, hz1, hz2⟩ := info_parts file_info
  cases A with
  | none =>
    have hn : l = [] := by
      cases l with
      | nil => rfl
      | cons x r => obtain ⟨g, o, e, _⟩ := h.row (by simp); cases e
    subst hn
    have q := fun (w : World) (a : Option Addr) (n c n' c' : Nat) => Lib.run_eql_slice_nil (P := Tryd.prog) w 23 41 a n c n' c' Tryd.underlying23
    go_enter Tryd.func27, Tryd.ntmps27
    go_wp2_with fail
    go_ret
    exact ⟨_, rfl, World.ownsRow_nil _ _ _ _, Below.refl _ _⟩
  | some a =>
    have hcs := treeAt_cells h rfl
    have HCS := Lib.hid hcs; clear hcs
    have HT := Lib.hid h; clear h
    have HI := Lib.hid hi; clear hi
    have q := fun (w : World) (a : Option Addr) (n c n' c' : Nat) => Lib.run_eql_slice_nil (P := Tryd.prog) w 23 41 a n c n' c' Tryd.underlying23
    go_enter Tryd.func27, Tryd.ntmps27
    go_wp2_with (at_builtin; refine wpList_append_own _ rfl _ _ 23 rfl w.heap.size 41 i0 (.agg #[.string ⟨#[]⟩, .slice none 0 0]) 2 40 Tryd.underlying23 HI.out hz0 hz1 hz2 rfl (by decide) _ _ _ rfl (World.ownsRow_made w #[] 0 (Nat.le_refl _) (Nat.zero_le _) rfl) a l.length c (fcells l) rfl (fcells_length l) ?qc2 (fcells_one l) ?qc4 ?qc5 ?qc6 ?_)
    case qc2 => intro j u hj; exact Lib.cell?_alloc_some _ (HCS.out j u hj)
    case qc4 => unfold maxLen; omega
    case qc5 => omega
    case qc6 => simp
    intro v' w1 hown hgrow _
    go_wp2_with fail
    go_ret
    exact ⟨v', rfl, by simpa [FilesOwn] using hown, ((Below.refl _ w).alloc (Nat.le_refl _) _).grown hgrow (by simp) (by intro k hk; simp [Value.ownBlock] at hk; omega)⟩
end Go.Proofs.YtedcaodbcognjaaDoor
