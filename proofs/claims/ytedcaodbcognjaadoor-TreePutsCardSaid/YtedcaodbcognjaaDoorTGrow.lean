/-
  slices.Insert of one file into a row of files of the call's own, ahead of its end, where there is no room; all three roads.
-/
import Derived.Test.YtedcaodbcognjaaDoorTShift
namespace Go.Proofs.YtedcaodbcognjaaDoor
open Go Go.RowKit Go.Shelf Go.Proofs

set_option maxRecDepth 100000 in
set_option maxHeartbeats 4000000 in
theorem insert_grow (base : Nat) (l : List FX) (g cap i : Nat) (x : FX) (N : Nat) (w : World) (h : FilesOwn base w (.slice (some ⟨g, 0, none⟩) l.length cap) l) (hl : l.length ≤ 100000) (hin : i < l.length) (hlc : l.length ≤ cap) (hr : cap < l.length + 1) (hbase : base ≤ w.heap.size)
    (hN : w.heap[N]? = some (Obj.cells #[.string x.p, .slice x.A x.b.length x.c] 41 (0, 0))) :
    Calls Tryd.prog 63 #[.slice (some ⟨g, 0, none⟩) l.length cap, .int .i64 (i : Int), .slice (some ⟨N, 0, none⟩) 1 1] w (InsPost base (.slice (some ⟨g, 0, none⟩) l.length cap) w (insX l i x)) := by
  obtain ⟨i0, hi0, hz0, hz1, hz2⟩ := info_parts file_info
  have h' : w.ownsRow base 41 2 (.slice (some ⟨g, 0, none⟩) l.length cap) l.length (fcells l) := h
  have hgl : g < w.heap.size := by
    obtain ⟨_, cur, hh⟩ := h.row (g := g) rfl
    exact (Array.getElem?_eq_some_iff.1 hh).1
  have hNl : N < w.heap.size := (Array.getElem?_eq_some_iff.1 hN).1
  have hsrc : ∀ j v, (fcells l)[j]? = some v → w.cell? ⟨g, j, none⟩ = some v := fun j v hv => by
    have := World.ownsRow.cells h' (g := g) rfl _ v hv
    rwa [Go.WideShapes.add_plain, Nat.zero_add] at this
  have hdl : (fcells (l.drop i)).length = (l.length - i) * 2 := by rw [fcells_length, List.length_drop]
  have htl : (fcells (l.take i)).length = i * 2 := by rw [fcells_length, List.length_take]; omega
  have hold : (Builtin.firstCells i0.size i (.slice (some ⟨g, 0, none⟩) i cap)).run Tryd.prog w.drew = .ok (fcells (l.take i)).toArray w.drew := by
    rw [hz1]
    refine run_firstCells_some w.drew 2 i ⟨g, 0, none⟩ i cap _ htl (fun j v hv => ?_)
    rw [Go.WideShapes.add_plain, Nat.zero_add]
    refine hsrc j v ?_
    rw [← fcells_take, List.getElem?_take] at hv
    split at hv
    · exact hv
    · cases hv
  obtain ⟨G, hG⟩ : ∃ G, grownCap w (l.length + 1) cap 41 = G := ⟨_, rfl⟩
  have hGn : l.length + 1 ≤ G := by rw [← hG]; exact grownCap_ge w _ _ _
  have hG63 : G ≤ maxLen := by rw [← hG]; exact grownCap_le_maxLen w _ _ _ (by unfold maxLen; omega)
  obtain ⟨ROW, hROW⟩ : ∃ ROW : Array Value, (fcells (l.take i)).toArray ++ Builtin.zeroCells (Value.agg #[.string ⟨#[]⟩, .slice none 0 0]).cells (l.length + 1 - i) ++ Builtin.zeroCells (Value.agg #[.string ⟨#[]⟩, .slice none 0 0]).cells (G - (l.length + 1)) = ROW := ⟨_, rfl⟩
  have hRs : ROW.size = G * 2 := by
    rw [← hROW, Array.size_append, Array.size_append, size_zeroCells, size_zeroCells, List.size_toArray, htl]
    show i * 2 + (l.length + 1 - i) * 2 + (G - (l.length + 1)) * 2 = G * 2
    omega
  have hRt : ROW.toList.take (i * 2) = fcells (l.take i) := by
    rw [← hROW]
    simp only [Array.toList_append, List.append_assoc]
    rw [List.take_append_of_le_length (by simp [htl]), List.take_of_length_le (by simp [htl])]
  have hrz : ∀ ty, (Builtin.append_ #[23, 3] ty #[.slice (some ⟨g, 0, none⟩) i cap, .int .i64 ((l.length : Int) + 1 - (i : Int))]).run Tryd.prog w = .ok (.slice (some ⟨w.heap.size, 0, none⟩) (l.length + 1) G) (w.drew.alloc (.cells ROW 41)) := fun ty => by
    have hik : i + (l.length + 1 - i) = l.length + 1 := by omega
    have hh := Lib.run_append_grow_zeros (P := Tryd.prog) w 23 3 ty 41 i0 _ .i64 .i64 Tryd.underlying23 Tryd.underlying3 hi0 hz0 (some ⟨g, 0, none⟩) i cap (fcells (l.take i)) hold (l.length + 1 - i) (by omega) (by omega) (by omega) (by omega) (by rw [hz2]; omega) (by rw [hz2, hik]; exact growslice_fits (by omega) (by omega))
    rw [hik, hG, hROW] at hh
    rw [show (l.length : Int) + 1 - (i : Int) = ((l.length + 1 - i : Nat) : Int) from by omega]
    exact hh
  obtain ⟨W1, hW1⟩ : ∃ W1, w.drew.alloc (.cells ROW 41) = W1 := ⟨_, rfl⟩
  have hh1 : W1.heap[w.heap.size]? = some (Obj.cells ROW 41 (0, 0)) := by rw [← hW1]; exact heap_alloc_new w.drew _
  have hb1 : Below w.heap.size w W1 := by rw [← hW1]; exact ((Below.refl _ w).drew).alloc (Nat.le_refl _) _
  rw [hW1] at hrz
  have hyl : (ROW.toList.take ((l.length + 1) * 2)).length = (l.length + 1) * 2 := by
    have e : ROW.toList.length = ROW.size := Array.length_toList
    rw [List.length_take, e]; omega
  have hown : W1.ownsRow base 41 2 (.slice (some ⟨w.heap.size, 0, none⟩) (l.length + 1) G) (l.length + 1) (ROW.toList.take ((l.length + 1) * 2)) := ⟨hyl, .inr ⟨w.heap.size, G, ROW, rfl, hbase, hh1, hGn, hG63, hRs, rfl⟩⟩
  have hcell : ∀ j, j < (l.length + 1) * 2 → (W1.cell? ⟨w.heap.size, j, none⟩).isSome = true := fun j hj => by
    have hj2 : j < ROW.size := by omega
    rw [cell_of_row W1 _ j _ _ _ hh1, Array.getElem?_eq_getElem hj2]; rfl
  have hfz : ∀ j, W1.frozen? ⟨w.heap.size, j, none⟩ = false := fun j => by simp [World.frozen?, hh1]
  have hcp1 : ∀ ty dc, (Builtin.copy_ #[23, 22] ty #[.slice (some ⟨w.heap.size, i * 2, none⟩) (l.length + 1 - i) dc, .slice (some ⟨N, 0, none⟩) 1 1]).run Tryd.prog W1 = .ok (goInt ((1 : Nat) : Int)) (W1.setCells w.heap.size (i * 2) x.cs) := fun ty dc => by
    refine run_copy_files _ _ _ ty Tryd.underlying23 w.heap.size (i * 2) _ dc ⟨N, 0, none⟩ 1 1 1 x.cs (by simp only [Nat.min_def]; split <;> omega) rfl (fun j v hv => by
        rw [Go.WideShapes.add_plain, Nat.zero_add]
        exact (hb1.cell (p := ⟨N, j, none⟩) hNl).trans ((cell_of_row w _ j _ _ _ hN).trans (by simpa [FX.cs] using hv)))
      (fun j hj => hcell _ (by have : j < 2 := hj; omega)) (fun j _ => hfz _) FX.one
  obtain ⟨W2, hW2⟩ : ∃ W2, W1.setCells w.heap.size (i * 2) x.cs = W2 := ⟨_, rfl⟩
  have hcp2 : ∀ ty dc sc, (Builtin.copy_ #[23, 23] ty #[.slice (some ⟨w.heap.size, (i + 1) * 2, none⟩) (l.length - i) dc, .slice (some ⟨g, i * 2, none⟩) (l.length - i) sc]).run Tryd.prog W2.drew = .ok (goInt ((l.length - i : Nat) : Int)) (W2.drew.setCells w.heap.size ((i + 1) * 2) (fcells (l.drop i))) := fun ty dc sc => by
    refine run_copy_files W2.drew _ _ ty Tryd.underlying23 w.heap.size ((i + 1) * 2) _ dc ⟨g, i * 2, none⟩ _ sc (l.length - i) (fcells (l.drop i)) (by simp only [Nat.min_def]; split <;> omega) hdl (fun j v hv => ?_) (fun j hj => ?_) (fun j _ => ?_) (fcells_one _)
    · rw [Go.WideShapes.add_plain]
      show W2.cell? _ = _
      rw [← hW2, World.cell?_setCells_out _ _ _ _ _ (fun h _ => absurd h (by show g ≠ w.heap.size; omega))]
      refine (hb1.cell (p := ⟨g, i * 2 + j, none⟩) hgl).trans (hsrc _ v ?_)
      rwa [← fcells_drop, List.getElem?_drop] at hv
    · show (W2.cell? _).isSome = true
      rw [← hW2]
      exact isSome_setCells w.heap.size x.cs (i * 2) W1 (fun q hq => hcell (i * 2 + q) (by have : q < 2 := hq; omega)) ((i + 1) * 2 + j) (hcell _ (by rw [hdl] at hj; omega))
    · show W2.frozen? _ = false
      rw [← hW2, World.frozen?_setCells]; exact hfz _
  have hfin : FilesOwn base (W2.drew.setCells w.heap.size ((i + 1) * 2) (fcells (l.drop i))) (.slice (some ⟨w.heap.size, 0, none⟩) (l.length + 1) G) (insX l i x) := by
    have hd : ∀ (vs : List Value) (o : Nat) (W : World), W.drew.setCells w.heap.size o vs = (W.setCells w.heap.size o vs).drew := fun vs o W => (drew_setCells w.heap.size vs o W).symm
    rw [hd, ← hW2]
    exact own_laid (W := W1) (x := x) (cap := G) rfl (Nat.le_of_lt hin) hown (by
      rw [List.take_take, ← fcells_take] at *
      rw [show min (i * 2) ((l.length + 1) * 2) = i * 2 from by omega, hRt, fcells_take]) hyl
  have hgr : w.grownBy (W2.drew.setCells w.heap.size ((i + 1) * 2) (fcells (l.drop i))) (some g) := by
    rw [← hW2]
    exact grown_trans2 (grown_trans2 (grown_trans2 (grownN hb1 _) (grown_setCells _ _) (.inr (fun q e => by cases e; exact Nat.le_refl _))) (grownN (below_drew1 _) (some g)) (.inl rfl)) (grown_setCells _ _) (.inr (fun q e => by cases e; exact Nat.le_refl _))
  rw [hW2] at hcp1
  have HFIN := Lib.hid hfin; clear hfin
  have HGR := Lib.hid hgr; clear hgr
  have q1 : ((i : Nat) : Int) < (l.length : Int) := by omega
  have q2 : ¬ ((i : Int) = (l.length : Int)) := by omega
  have q3 : ((i : Int) == (l.length : Int)) = false := by rw [beq_eq_false_iff_ne]; exact q2
  have q4 : ¬ cap = i := by omega
  have q5 : ¬ G = i := by omega
  have q6 : ¬ G = i + 1 := by omega
  have q7 : (cap : Int) < (l.length : Int) + 1 := by omega
  unfold maxLen at hG63
  clear h h' hsrc hdl htl hold hG hROW hRs hRt hW1 hh1 hb1 hyl hown hcell hfz hW2 hN hz0 hz1 hz2 hi0
  go_enter Tryd.func63, Tryd.ntmps63
  go_wp2_with (first
    | (at_builtin; refine Lib.wpList_append_run _ rfl _ _ 23 3 rfl (.slice (some ⟨g, 0, none⟩) i cap) (.int .i64 ((l.length : Int) + 1 - (i : Int))) rfl rfl _ _ (hrz _) ?_)
    | (at_builtin; refine wpList_copy_runI _ rfl _ _ 23 22 rfl _ _ rfl rfl (hcp1 _ _) ?_))
  have hw1 : IntKind.i64.wrap ((i : Int) + 1) = (i : Int) + 1 := IntWalk.i64_in _ (by omega)
  have htn : ((i : Int) + 1).toNat = i + 1 := by omega
  have hb1 : (0 : Int) ≤ (i : Int) + 1 := by omega
  have hb3 : (i : Int) ≤ (l.length : Int) + 1 := by omega
  have hb6 : (i : Int) ≤ (l.length : Int) := by omega
  have hb7 : (0 : Int) ≤ (i : Int) := by omega
  have hb5 : (i : Int) + 1 ≤ (l.length : Int) + 1 := by omega
  go_region_law (refine step_copy_runI rfl _ _ 23 23 rfl _ _ (by simp [Act.eval, Act.put]) (by simp [Act.eval, Act.put]) (hcp2 _ _ _) ?_)
  go_wp2_with fail
  go_ret
  exact ⟨_, rfl, HFIN.out, HGR.out⟩

/-- slices.Insert of one file, all roads. -/
theorem insert_any (base : Nat) (l : List FX) (A : Option Addr) (n c i : Nat) (x : FX) (N : Nat) (w : World) (h : FilesOwn base w (.slice A n c) l) (hn : n = l.length) (hl : l.length ≤ 100000) (hin : i ≤ n) (hbase : base ≤ w.heap.size) (hNg : ∀ a, A = some a → N ≠ a.block)
    (hN : w.heap[N]? = some (Obj.cells #[.string x.p, .slice x.A x.b.length x.c] 41 (0, 0))) :
    Calls Tryd.prog 63 #[.slice A n c, .int .i64 (i : Int), .slice (some ⟨N, 0, none⟩) 1 1] w (InsPost base (.slice A n c) w (insX l i x)) := by
  subst hn
  rcases Nat.lt_or_ge i l.length with hlt | hge
  · rcases h.form with ⟨_, h1⟩ | ⟨g, cap, cur, h0, _, _, h3, h4, _⟩
    · rw [h1] at hlt; exact absurd hlt (Nat.not_lt_zero _)
    · cases h0
      by_cases hr : l.length + 1 ≤ c
      · exact insert_shift base l g l.length c i x N w h rfl hl hlt hr (by unfold maxLen at h4; omega) (hNg _ rfl) hN
      · exact insert_grow base l g c i x N w h hl hlt h3 (by omega) hbase hN
  · obtain rfl : i = l.length := by omega
    exact insert_end base l A _ c x N w h rfl hl hbase hN
end Go.Proofs.YtedcaodbcognjaaDoor
