/-
  tree.refusal, tree.changed.
-/
import Derived.Test.YtffhfllikamccaaGreatDoorTPuts
import Derived.Test.YtffhfllikamccaaGreatDoorTRightW
namespace Go.Proofs.YtffhfllikamccaaGreatDoor
open Go Go.RowKit Go.Shelf Go.Proofs

/-- Why a list can't have a change; 0: it can. -/
def refT (t : List Fl) (d : Dl) : Int :=
  if !(decide (d.k = 1 ∨ d.k = 2 ∨ d.k = 3) && rightB d.p) then 2
  else if hasT t d.p && decide (d.k = 1) then 5
  else if !hasT t d.p && !decide (d.k = 1) then 6
  else 0
def chT (t : List Fl) (d : Dl) : List Fl := if d.k = 3 then dropT t d.p else putT t (d.p, d.b)
theorem stepT_ref (t : List Fl) (d : Dl) : stepT t d = if refT t d = 0 then .ok (chT t d) else .error (refT t d) := by
  unfold stepT refT chT
  split
  · rw [if_neg (by decide)]
  · split
    · rw [if_neg (by decide)]
    · split
      · rw [if_neg (by decide)]
      · rw [if_pos rfl]
def DX.f (d : DX) : FX := ⟨d.p, d.A, d.c, d.b⟩
def chX (l : List FX) (d : DX) : List FX := if d.k = 3 then keepX l d.p else putX l d.f
theorem chX_fls (l : List FX) (d : DX) : flsX (chX l d) = chT (flsX l) d.dl := by
  unfold chX chT
  by_cases h : d.k = 3
  · rw [if_pos h, if_pos (show d.dl.k = 3 from h), keepX_fls]; rfl
  · rw [if_neg h, if_neg (show ¬ d.dl.k = 3 from h), putX_fls]; rfl
theorem chX_le (l : List FX) (d : DX) : (chX l d).length ≤ l.length + 1 := by
  unfold chX
  split
  · exact Nat.le_trans (List.length_filter_le _ _) (by omega)
  · exact putX_le _ _
theorem chX_sub {l : List FX} {d : DX} : ∀ x ∈ chX l d, x = d.f ∨ x ∈ l := fun x hx => by
  unfold chX at hx
  split at hx
  · exact .inr (keepX_sub x hx)
  · exact putX_sub x hx

set_option maxHeartbeats 1000000 in
theorem changed_any (base : Nat) (l : List FX) (v : Value) (d : DX) (w : World) (h : FilesOwn base w v l) (hl : l.length ≤ 90000) (hbase : base ≤ w.heap.size) :
    Calls Tryz.prog 55 #[v, .agg #[.int .i64 d.k, .string d.p, .slice d.A d.b.length d.c]] w (InsPost base v w (chX l d)) := by
  obtain ⟨A, c, rfl⟩ := h.slice
  obtain ⟨W, hW⟩ : ∃ W, w.alloc (.cells #[.int .i64 d.k, .string d.p, .slice d.A d.b.length d.c] 62) = W := ⟨_, rfl⟩
  have hb : Below w.heap.size w W := by rw [← hW]; exact (Below.refl _ w).alloc (Nat.le_refl _) _
  have hbx : W.heap[w.heap.size]? = some (Obj.cells #[.int .i64 d.k, .string d.p, .slice d.A d.b.length d.c] 62 (0, 0)) := by rw [← hW]; exact heap_alloc_new w _
  have c0 : W.cell? ⟨w.heap.size, 0, none⟩ = some (.int .i64 d.k) := cell_of_row _ _ 0 _ _ _ hbx
  have c1 : W.cell? ⟨w.heap.size, 1, none⟩ = some (.string d.p) := cell_of_row _ _ 1 _ _ _ hbx
  have c2 : W.cell? ⟨w.heap.size, 2, none⟩ = some (.slice d.A d.b.length d.c) := cell_of_row _ _ 2 _ _ _ hbx
  have HD := Lib.hid (drop_any base l (.slice A l.length c) d.p W (h.below hb) (by omega))
  have HP := Lib.hid (put_any base l (.slice A l.length c) d.f W (h.below hb) hl (Nat.le_trans hbase hb.size))
  have HB := Lib.hid hb; clear hb hbx h
  by_cases hk : d.k = 3
  · have hx : chX l d = keepX l d.p := by unfold chX; rw [if_pos hk]
    rw [hx]
    rw [hk] at c0
    clear hx
    go_enter Tryz.func55, Tryz.ntmps55
    rw [hk] at hW ⊢
    go_wp2_with fail
    refine HD.out.mono ?_
    rintro e w1 ⟨v', rfl, h1, h2, h3⟩
    obtain ⟨A1, c1, rfl⟩ := h1.slice
    have H1 := Lib.hid h1; clear h1
    have H2 := Lib.hid h2; clear h2 h3
    go_wp2_with fail
    go_ret
    exact ⟨_, rfl, H1.out, grown_trans2 (grownN HB.out _) H2.out (.inl rfl)⟩
  · have hx : chX l d = putX l d.f := by unfold chX; rw [if_neg hk]
    rw [hx]
    clear hx
    have hk2 : (d.k == 3) = false := by rw [beq_eq_false_iff_ne]; exact hk
    go_enter Tryz.func55, Tryz.ntmps55
    go_wp2_with fail
    refine HP.out.mono ?_
    rintro e w1 ⟨v', rfl, h1, h2⟩
    obtain ⟨A1, c1, rfl⟩ := h1.slice
    have H1 := Lib.hid h1; clear h1
    have H2 := Lib.hid h2; clear h2
    go_wp2_with fail
    go_ret
    exact ⟨_, rfl, H1.out, grown_trans2 (grownN HB.out _) H2.out (.inl rfl)⟩

set_option maxHeartbeats 4000000 in
theorem refusal_any (l : List FX) (A : Option Addr) (c : Nat) (d : DX) (w : World) (h : TreeAt w A c l) (hd : d.p.size ≤ 1000000) (hm : MaxOk w) :
    Calls Tryz.prog 54 #[.slice A l.length c, .agg #[.int .i64 d.k, .string d.p, .slice d.A d.b.length d.c]] w fun e w' => e = .returned (.int .i64 (refT (flsX l) d.dl)) ∧ Below w.heap.size w w' := by
  obtain ⟨W, hW⟩ : ∃ W, w.alloc (.cells #[.int .i64 d.k, .string d.p, .slice d.A d.b.length d.c] 62) = W := ⟨_, rfl⟩
  have hb : Below w.heap.size w W := by rw [← hW]; exact (Below.refl _ w).alloc (Nat.le_refl _) _
  have hbx : W.heap[w.heap.size]? = some (Obj.cells #[.int .i64 d.k, .string d.p, .slice d.A d.b.length d.c] 62 (0, 0)) := by rw [← hW]; exact heap_alloc_new w _
  have hlt : w.heap.size < W.heap.size := (Array.getElem?_eq_some_iff.1 hbx).1
  have c0 : W.cell? ⟨w.heap.size, 0, none⟩ = some (.int .i64 d.k) := cell_of_row _ _ 0 _ _ _ hbx
  have c1 : W.cell? ⟨w.heap.size, 1, none⟩ = some (.string d.p) := cell_of_row _ _ 1 _ _ _ hbx
  obtain ⟨rb, hrb⟩ : ∃ rb, rightB d.p.data.toList = rb := ⟨_, rfl⟩
  have HR := Lib.hid (pright_to d.p rb W hd (hm.below hb) hrb)
  have hcells : ∀ w', Below W.heap.size W w' → w'.cell? ⟨w.heap.size, 0, none⟩ = some (.int .i64 d.k) ∧ w'.cell? ⟨w.heap.size, 1, none⟩ = some (.string d.p) := fun w' hb' =>
    ⟨(hb'.cell (p := ⟨w.heap.size, 0, none⟩) hlt).trans c0, (hb'.cell (p := ⟨w.heap.size, 1, none⟩) hlt).trans c1⟩
  have HCS := Lib.hid hcells; clear hcells
  have HT := Lib.hid (h.below hb)
  have HB := Lib.hid hb; clear hb hbx hlt h
  have hbad : ¬ (d.k = 1 ∨ d.k = 2 ∨ d.k = 3) ∨ rb = false → refT (flsX l) d.dl = 2 := fun hh => by
    unfold refT
    rw [if_pos]
    show (!(decide (d.k = 1 ∨ d.k = 2 ∨ d.k = 3) && rightB d.p.data.toList)) = true
    rw [hrb]
    rcases hh with hh | rfl
    · rw [decide_eq_false hh]; rfl
    · simp
  have hgood : (d.k = 1 ∨ d.k = 2 ∨ d.k = 3) → rb = true → refT (flsX l) d.dl = if hasT (flsX l) d.p.data.toList && decide (d.k = 1) then 5 else if !hasT (flsX l) d.p.data.toList && !decide (d.k = 1) then 6 else 0 := fun h1 h2 => by
    unfold refT
    rw [if_neg]
    · rfl
    · show ¬ (!(decide (d.k = 1 ∨ d.k = 2 ∨ d.k = 3) && rightB d.p.data.toList)) = true
      rw [hrb, h2, decide_eq_true h1]; simp
  have HBAD := Lib.hid hbad; clear hbad
  have HGOOD := Lib.hid hgood; clear hgood
  clear hrb
  by_cases hk : d.k = 1 ∨ d.k = 2 ∨ d.k = 3
  · cases rb with
    | false =>
      rw [HBAD.out (.inr rfl)]
      clear HBAD HGOOD
      rcases hk with hk | hk | hk <;> (
        go_enter Tryz.func54, Tryz.ntmps54
        rw [hk] at hW c0 ⊢
        go_wp2_with fail
        refine HR.out.mono ?_
        rintro e w1 ⟨rfl, hb1⟩
        have HB1 := Lib.hid hb1; clear hb1
        go_wp2_with fail
        go_ret
        exact ⟨rfl, HB.out.trans (HB1.out.mono HB.out.size)⟩)
    | true =>
      rw [HGOOD.out hk rfl]
      clear HBAD HGOOD
      rcases place_get l d.p with ⟨h1, _, h2⟩ | ⟨k, x, h1, _, _, h2⟩
      · rw [h2]
        clear h2
        rcases hk with hk | hk | hk <;> (
          have hk0 := hk
          go_enter Tryz.func54, Tryz.ntmps54
          rw [hk] at hW c0 ⊢
          go_wp2_with fail
          refine HR.out.mono ?_
          rintro e w1 ⟨rfl, hb1⟩
          obtain ⟨d0, d1⟩ := HCS.out _ hb1
          rw [hk0] at d0
          have HF := Lib.hid (find_any l A c d.p w1 (HT.out.below hb1))
          rw [h1] at HF
          have HB1 := Lib.hid hb1; clear hb1 c0 c1
          go_wp2_with fail
          refine HF.out.mono ?_
          rintro e w2 ⟨rfl, hb2⟩
          have hb2 := HB1.out.trans (hb2.mono HB1.out.size)
          clear d0 d1
          obtain ⟨d0, d1⟩ := HCS.out _ hb2
          rw [hk0] at d0
          have HB2 := Lib.hid hb2; clear hb2
          go_wp2_with fail
          go_ret
          exact ⟨rfl, HB.out.trans (HB2.out.mono HB.out.size)⟩)
      · rw [h2]
        clear h2
        have k0 : (k : Int) ≥ 0 := by omega
        rcases hk with hk | hk | hk <;> (
          have hk0 := hk
          go_enter Tryz.func54, Tryz.ntmps54
          rw [hk] at hW c0 ⊢
          go_wp2_with fail
          refine HR.out.mono ?_
          rintro e w1 ⟨rfl, hb1⟩
          obtain ⟨d0, d1⟩ := HCS.out _ hb1
          rw [hk0] at d0
          have HF := Lib.hid (find_any l A c d.p w1 (HT.out.below hb1))
          rw [h1] at HF
          have HB1 := Lib.hid hb1; clear hb1 c0 c1
          go_wp2_with fail
          refine HF.out.mono ?_
          rintro e w2 ⟨rfl, hb2⟩
          have hb2 := HB1.out.trans (hb2.mono HB1.out.size)
          clear d0 d1
          obtain ⟨d0, d1⟩ := HCS.out _ hb2
          rw [hk0] at d0
          have HB2 := Lib.hid hb2; clear hb2
          go_wp2_with fail
          go_ret
          exact ⟨rfl, HB.out.trans (HB2.out.mono HB.out.size)⟩)
  · rw [HBAD.out (.inl hk)]
    have q1 : (d.k == 1) = false := by rw [beq_eq_false_iff_ne]; exact fun e => hk (.inl e)
    have q2 : (d.k == 2) = false := by rw [beq_eq_false_iff_ne]; exact fun e => hk (.inr (.inl e))
    have q3 : (d.k == 3) = false := by rw [beq_eq_false_iff_ne]; exact fun e => hk (.inr (.inr e))
    clear HBAD HGOOD hk
    go_enter Tryz.func54, Tryz.ntmps54
    go_wp2_with fail
    go_ret
    exact ⟨rfl, HB.out⟩
end Go.Proofs.YtffhfllikamccaaGreatDoor
