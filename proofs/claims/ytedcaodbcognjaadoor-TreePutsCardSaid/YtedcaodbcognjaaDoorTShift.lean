/-
  slices.Insert of one file into a row of files of the call's own, ahead of its end, where there is room.
-/
import Derived.Test.YtedcaodbcognjaaDoorTInsert
namespace Go.Proofs.YtedcaodbcognjaaDoor
open Go Go.RowKit Go.Shelf Go.Proofs

theorem below_drew1 (w : World) : Below w.heap.size w w.drew := (Below.refl _ w).drew
set_option maxRecDepth 100000 in
set_option maxHeartbeats 4000000 in
theorem insert_shift (base : Nat) (l : List FX) (g n cap i : Nat) (x : FX) (N : Nat) (w : World) (h : FilesOwn base w (.slice (some ⟨g, 0, none⟩) n cap) l) (hn : n = l.length) (hl : l.length ≤ 100000) (hin : i < n) (hr : n + 1 ≤ cap) (hcm : cap ≤ 9223372036854775807) (hNg : N ≠ g)
    (hN : w.heap[N]? = some (Obj.cells #[.string x.p, .slice x.A x.b.length x.c] 41 (0, 0))) :
    Calls Tryd.prog 63 #[.slice (some ⟨g, 0, none⟩) n cap, .int .i64 (i : Int), .slice (some ⟨N, 0, none⟩) 1 1] w (InsPost base (.slice (some ⟨g, 0, none⟩) n cap) w (insX l i x)) := by
  subst hn
  have h' : w.ownsRow base 41 2 (.slice (some ⟨g, 0, none⟩) l.length cap) l.length (fcells l) := h
  obtain ⟨ys, hy1, hy2, hy3⟩ := own_more h' hr
  have hcell : ∀ j, j < (l.length + 1) * 2 → (w.cell? ⟨g, j, none⟩).isSome = true := fun j hj => by
    have := World.ownsRow.cells hy1 (g := g) rfl j (ys[j]'(by omega)) (List.getElem?_eq_getElem (by omega))
    rw [Go.WideShapes.add_plain, Nat.zero_add] at this
    rw [this]; rfl
  have hfz : ∀ j, w.frozen? ⟨g, j, none⟩ = false := fun j => h.frozen j
  have hsrc : ∀ j v, (fcells (l.drop i))[j]? = some v → w.cell? ⟨g, i * 2 + j, none⟩ = some v := fun j v hv => by
    rw [← fcells_drop, List.getElem?_drop] at hv
    have := World.ownsRow.cells h' (g := g) rfl _ v hv
    rwa [Go.WideShapes.add_plain, Nat.zero_add] at this
  have hdl : (fcells (l.drop i)).length = (l.length - i) * 2 := by rw [fcells_length, List.length_drop]
  obtain ⟨_, _, cur, hcur, _, hh, _, _, hcs⟩ := h.form.resolve_left (fun h0 => by cases h0.1)
  cases hcur
  have hsa : w.shape? N = some (41, 2) := by simp [World.shape?, hN]
  have hsb : w.shape? g = some (41, cap * 2) := by simp [World.shape?, hh, hcs]
  have hfa : w.frozen? ⟨N, 0, none⟩ = false := by simp [World.frozen?, hN]
  have hfe : w.frozen? ⟨N, 2, none⟩ = false := by simp [World.frozen?, hN]
  have hov : ∀ o lb cb, (callFunc 78 #[.slice (some ⟨N, 0, none⟩) 1 1, .slice (some ⟨g, o, none⟩) lb cb]).run Tryd.prog w = .ok (.value (.bool false)) w := fun o lb cb => by
    rw [run_callFunc_extern Tryd.func78 (by kernel_rfl) (by kernel_rfl) (by kernel_rfl) (e := Extern.SlicesOverlaps.overlaps #[22, 22] #[4]) (by kernel_rfl),
      Lib.run_overlaps_apart w 22 4 41 Tryd.underlying22 2 (fun W => by kernel_rfl) ⟨N, 0, none⟩ ⟨g, o, none⟩ 1 1 lb cb hNg 41 41 2 (cap * 2) hsa hsb (by omega) hfa hfe]
    rfl
  have q1 : ((i : Nat) : Int) < (l.length : Int) := by omega
  have q2 : ¬ ((i : Int) = (l.length : Int)) := by omega
  have q3 : ((i : Int) == (l.length : Int)) = false := by rw [beq_eq_false_iff_ne]; exact q2
  have q4 : ¬ cap = i := by omega
  have q5 : ¬ cap = i + 1 := by omega
  clear hsa hsb hfa hfe hh hcs
  have HF := Lib.hid h; clear h h'
  have HY1 := Lib.hid hy1; clear hy1
  have HY2 := Lib.hid hy2; clear hy2
  have HY3 := Lib.hid hy3; clear hy3
  have HC := Lib.hid hcell; clear hcell
  have HFZ := Lib.hid hfz; clear hfz
  have HS := Lib.hid hsrc; clear hsrc
  have HDL := Lib.hid hdl; clear hdl
  have HN := Lib.hid hN; clear hN
  go_enter Tryd.func63, Tryd.ntmps63
  go_wp2_with (simp only [hov])
  have hw1 : IntKind.i64.wrap ((i : Int) + 1) = (i : Int) + 1 := IntWalk.i64_in _ (by omega)
  have htn : ((i : Int) + 1).toNat = i + 1 := by omega
  have hb1 : (0 : Int) ≤ (i : Int) + 1 := by omega
  have hb3 : (i : Int) ≤ (l.length : Int) + 1 := by omega
  have hb5 : (i : Int) + 1 ≤ (l.length : Int) + 1 := by omega
  have hcp1 : ∀ ty dc sc, (Builtin.copy_ #[23, 23] ty #[.slice (some ⟨g, (i + 1) * 2, none⟩) (l.length - i) dc, .slice (some ⟨g, i * 2, none⟩) (l.length + 1 - i) sc]).run Tryd.prog w.drew = .ok (goInt ((l.length - i : Nat) : Int)) (w.drew.setCells g ((i + 1) * 2) (fcells (l.drop i))) := fun ty dc sc => by
    refine run_copy_files w.drew _ _ ty Tryd.underlying23 g ((i + 1) * 2) _ dc ⟨g, i * 2, none⟩ _ sc (l.length - i) (fcells (l.drop i)) (by simp only [Nat.min_def]; split <;> omega) HDL.out (fun j v hv => by rw [Go.WideShapes.add_plain]; exact HS.out j v hv)
      (fun j hj => HC.out _ (by rw [HDL.out] at hj; omega)) (fun j _ => HFZ.out _) (fcells_one _)
  have hcp2 : ∀ ty dc, (Builtin.copy_ #[23, 22] ty #[.slice (some ⟨g, i * 2, none⟩) (l.length + 1 - i) dc, .slice (some ⟨N, 0, none⟩) 1 1]).run Tryd.prog (w.drew.setCells g ((i + 1) * 2) (fcells (l.drop i))) = .ok (goInt ((1 : Nat) : Int)) ((w.drew.setCells g ((i + 1) * 2) (fcells (l.drop i))).setCells g (i * 2) x.cs) := fun ty dc => by
    refine run_copy_files _ _ _ ty Tryd.underlying23 g (i * 2) _ dc ⟨N, 0, none⟩ 1 1 1 x.cs (by simp only [Nat.min_def]; split <;> omega) rfl (fun j v hv => by
        rw [Go.WideShapes.add_plain, Nat.zero_add, World.cell?_setCells_out g _ _ _ _ (fun h _ => absurd h hNg)]
        exact (cell_of_row w _ j _ _ _ HN.out).trans (by simpa [FX.cs] using hv))
      (fun j hj => isSome_setCells g (fcells (l.drop i)) ((i + 1) * 2) w.drew (fun q hq => HC.out ((i + 1) * 2 + q) (by rw [HDL.out] at hq; omega)) (i * 2 + j) (HC.out (i * 2 + j) (by have : j < 2 := hj; omega)))
      (fun j _ => by rw [World.frozen?_setCells]; exact HFZ.out _) FX.one
  have hfin := own_shift (W := w.drew) (x := x) (cap := cap) rfl (Nat.le_of_lt hin) HY1.out (by
    have := HY2.out
    rw [← this, List.take_take]
    congr 1; omega) HY3.out
  have hgr : w.grownBy ((w.drew.setCells g ((i + 1) * 2) (fcells (l.drop i))).setCells g (i * 2) x.cs) (some g) :=
    grown_trans2 (grown_trans2 (grownN (below_drew1 w) _) (grown_setCells _ _) (.inl rfl)) (grown_setCells _ _) (.inl rfl)
  have HFIN := Lib.hid hfin; clear hfin
  have HGR := Lib.hid hgr; clear hgr
  obtain ⟨W1, hW1⟩ : ∃ W1, w.drew.setCells g ((i + 1) * 2) (fcells (l.drop i)) = W1 := ⟨_, rfl⟩
  rw [hW1] at hcp1 hcp2
  have HW1 := Lib.hid hW1; clear hW1
  go_region_law (refine step_copy_runI rfl _ _ 23 23 rfl _ _ (by simp [Act.eval, Act.put]) (by simp [Act.eval, Act.put]) (hcp1 _ _ _) ?_)
  go_wp2_with (at_builtin; refine wpList_copy_runI _ rfl _ _ 23 22 rfl _ _ rfl rfl (hcp2 _ _) ?_)
  go_ret
  rw [← HW1.out]
  exact ⟨_, rfl, HFIN.out, HGR.out⟩
end Go.Proofs.YtedcaodbcognjaaDoor
