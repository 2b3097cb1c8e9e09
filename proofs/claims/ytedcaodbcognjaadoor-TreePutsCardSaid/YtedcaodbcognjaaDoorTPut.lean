/-
  tree.put, tree.changed on a row of files of the call's own.
-/
import Derived.Test.YtedcaodbcognjaaDoorTGrow
import Derived.Test.YtedcaodbcognjaaDoorTMore
namespace Go.Proofs.YtedcaodbcognjaaDoor
open Go Go.RowKit Go.Shelf Go.Proofs

/-- The place of the first file whose path is above; their number, if there is none. -/
def aboveX (l : List FX) (s : ByteArray) : Nat := (l.takeWhile fun x => !ltB s.data.toList x.p.data.toList).length
def putX (l : List FX) (f : FX) : List FX := insX (keepX l f.p) (aboveX (keepX l f.p) f.p) f
theorem aboveX_le (l : List FX) (s : ByteArray) : aboveX l s ≤ l.length := (List.takeWhile_prefix _).length_le
theorem aboveX_hit {l : List FX} {s : ByteArray} {k : Nat} {x : FX} (hx : l[k]? = some x) (hp : ltB s.data.toList x.p.data.toList = true) (hn : ∀ j y, j < k → l[j]? = some y → ltB s.data.toList y.p.data.toList = false) : aboveX l s = k := by
  induction l generalizing k with
  | nil => simp at hx
  | cons z l ih =>
    unfold aboveX
    cases k with
    | zero => simp at hx; subst hx; simp [hp]
    | succ k =>
      have hz := hn 0 z (by omega) rfl
      have := ih (k := k) (by simpa using hx) (fun j y hj hy => hn (j + 1) y (by omega) (by simpa using hy))
      unfold aboveX at this
      simp [hz, this]
theorem aboveX_miss {l : List FX} {s : ByteArray} (hn : ∀ y ∈ l, ltB s.data.toList y.p.data.toList = false) : aboveX l s = l.length := by
  unfold aboveX
  induction l with
  | nil => rfl
  | cons z l ih =>
    have hz := hn z (by simp)
    simp [hz, ih fun y hy => hn y (by simp [hy])]
theorem putX_fls (l : List FX) (f : FX) : flsX (putX l f) = putT (flsX l) f.fl := by
  unfold putX putT
  rw [show f.fl.1 = f.p.data.toList from rfl, ← keepX_fls]
  generalize keepX l f.p = m
  unfold insX insT aboveX flsX
  have e : (m.map FX.fl).takeWhile (fun x => !ltB f.fl.1 x.1) = (m.takeWhile fun x => !ltB f.p.data.toList x.p.data.toList).map FX.fl := by
    rw [List.takeWhile_map]; rfl
  have e2 : (m.map FX.fl).dropWhile (fun x => !ltB f.fl.1 x.1) = (m.dropWhile fun x => !ltB f.p.data.toList x.p.data.toList).map FX.fl := by
    rw [List.dropWhile_map]; rfl
  rw [e, e2, List.map_append, List.map_cons]
  have h1 : m.take (m.takeWhile fun x => !ltB f.p.data.toList x.p.data.toList).length = m.takeWhile fun x => !ltB f.p.data.toList x.p.data.toList := by
    conv => lhs; rw [← List.takeWhile_append_dropWhile (p := fun x : FX => !ltB f.p.data.toList x.p.data.toList) (l := m)]
    rw [List.takeWhile_append_dropWhile]
    exact (List.prefix_iff_eq_take.1 (List.takeWhile_prefix _)).symm
  have h2 : m.drop (m.takeWhile fun x => !ltB f.p.data.toList x.p.data.toList).length = m.dropWhile fun x => !ltB f.p.data.toList x.p.data.toList := by
    have h3 := List.take_append_drop (m.takeWhile fun x => !ltB f.p.data.toList x.p.data.toList).length m
    rw [h1] at h3
    have h4 : m.takeWhile (fun x => !ltB f.p.data.toList x.p.data.toList) ++ m.drop (m.takeWhile fun x => !ltB f.p.data.toList x.p.data.toList).length = m.takeWhile (fun x => !ltB f.p.data.toList x.p.data.toList) ++ m.dropWhile (fun x => !ltB f.p.data.toList x.p.data.toList) := by
      rw [h3, List.takeWhile_append_dropWhile]
    exact List.append_cancel_left h4
  rw [h1, h2]

set_option maxRecDepth 100000 in
set_option maxHeartbeats 4000000 in
theorem put_any (base : Nat) (l : List FX) (v : Value) (f : FX) (w : World) (h : FilesOwn base w v l) (hl : l.length ≤ 90000) (hbase : base ≤ w.heap.size) :
    Calls Tryd.prog 42 #[v, .agg #[.string f.p, .slice f.A f.b.length f.c]] w (InsPost base v w (putX l f)) := by
  obtain ⟨A, n, c, rfl⟩ : ∃ A n c, v = .slice A n c := by
    rcases h.form with ⟨rfl, _⟩ | ⟨g, cap, cur, rfl, _⟩
    · exact ⟨_, _, _, rfl⟩
    · exact ⟨_, _, _, rfl⟩
  obtain ⟨W, hW⟩ : ∃ W, w.alloc (.cells #[.string f.p, .slice f.A f.b.length f.c] 41) = W := ⟨_, rfl⟩
  have hb : Below w.heap.size w W := by rw [← hW]; exact (Below.refl _ w).alloc (Nat.le_refl _) _
  have hbx : W.heap[w.heap.size]? = some (Obj.cells #[.string f.p, .slice f.A f.b.length f.c] 41 (0, 0)) := by rw [← hW]; exact heap_alloc_new w _
  have hne : (Value.slice A n c).ownBlock ≠ some w.heap.size := fun e => by
    obtain ⟨_, cur, hh⟩ := h.row e
    exact absurd (Array.getElem?_eq_some_iff.1 hh).1 (Nat.lt_irrefl _)
  have H := drop_any base l (.slice A n c) f.p W (h.below hb) (by omega)
  have HC := Lib.hid H; clear H
  have HB := Lib.hid hb; clear hb
  have HBX := Lib.hid hbx
  have c0 : W.cell? ⟨w.heap.size, 0, none⟩ = some (.string f.p) := cell_of_row _ _ 0 _ _ _ hbx
  clear hbx
  have HF := Lib.hid h; clear h
  have HNE := Lib.hid hne; clear hne
  go_enter Tryd.func42, Tryd.ntmps42
  go_wp2_with fail
  refine HC.out.mono ?_
  rintro e w1 ⟨v', rfl, h1, h2, h3⟩
  have hbx1 : w1.heap[w.heap.size]? = some (Obj.cells #[.string f.p, .slice f.A f.b.length f.c] 41 (0, 0)) := (h2.block _ (Array.getElem?_eq_some_iff.1 HBX.out).1 (fun e => HNE.out e.symm)).trans HBX.out
  have hg1 : w.grownBy w1 (Value.slice A n c).ownBlock := grown_trans2 (grownN HB.out _) h2 (.inl rfl)
  have hk : (keepX l f.p).length ≤ 90000 := Nat.le_trans (List.length_filter_le _ _) hl
  have hpr : PredF 62 #[.pointer (some ⟨w.heap.size, 0, none⟩)] (fun x => ltB f.p.data.toList x.p.data.toList) (keepX l f.p) w1 :=
    fun W' x _ hW' => put1_any x f.p w.heap.size W' (Nat.lt_of_lt_of_le (Array.getElem?_eq_some_iff.1 hbx1).1 hW'.size) ((hW'.cell (p := ⟨w.heap.size, 0, none⟩) (Array.getElem?_eq_some_iff.1 hbx1).1).trans (cell_of_row _ _ 0 _ _ _ hbx1))
  clear c0
  have HBX1 := Lib.hid hbx1; clear hbx1
  have HG1 := Lib.hid hg1; clear hg1 h2
  have H3 := Lib.hid h3; clear h3
  obtain ⟨A', n', c', rfl⟩ : ∃ A n c, v' = .slice A n c := by
    rcases h1.form with ⟨rfl, _⟩ | ⟨g, cap, cur, rfl, _⟩
    · exact ⟨_, _, _, rfl⟩
    · exact ⟨_, _, _, rfl⟩
  obtain ⟨hn', hrow'⟩ : n' = (keepX l f.p).length ∧ (0 < (keepX l f.p).length → ∃ b o, A' = some ⟨b, o, none⟩ ∧ RowF w1 b o (keepX l f.p)) := by
    rcases h1.form with ⟨e1, e2⟩ | ⟨g, cap, cur, e1, _⟩
    · cases e1; rw [e2]; exact ⟨rfl, fun h => absurd h (by simp)⟩
    · cases e1; exact ⟨rfl, fun _ => ⟨g, 0, rfl, h1.rowF⟩⟩
  subst hn'
  have HI := Lib.hid (indexF_any 62 #[.pointer (some ⟨w.heap.size, 0, none⟩)] (fun x => ltB f.p.data.toList x.p.data.toList) (keepX l f.p) A' c' w1 (enters_of (P := Tryd.prog) Tryd.func62 (by kernel_rfl) rfl) hpr (by unfold maxLen; omega) hrow')
  have H1 := Lib.hid h1; clear h1 hpr hrow'
  go_wp2_with fail
  refine HI.out.mono ?_
  rintro e w2 ⟨rfl, hb2⟩
  have hbx2 : w2.heap[w.heap.size]? = some (Obj.cells #[.string f.p, .slice f.A f.b.length f.c] 41 (0, 0)) := (hb2.block _ (Array.getElem?_eq_some_iff.1 HBX1.out).1).trans HBX1.out
  have d0 : w2.cell? ⟨w.heap.size, 0, none⟩ = some (.string f.p) := cell_of_row _ _ 0 _ _ _ hbx2
  have d1 : w2.cell? ⟨w.heap.size, 1, none⟩ = some (.slice f.A f.b.length f.c) := cell_of_row _ _ 1 _ _ _ hbx2
  clear hbx2
  have hb3 : Below w2.heap.size w2 (w2.alloc (.cells #[.string f.p, .slice f.A f.b.length f.c] 41)) := (Below.refl _ _).alloc (Nat.le_refl _) _
  have hb23 : Below w1.heap.size w1 (w2.alloc (.cells #[.string f.p, .slice f.A f.b.length f.c] 41)) := hb2.trans (hb3.mono hb2.size)
  have hins := fun (i : Nat) (hi : i ≤ (keepX l f.p).length) => insert_any base (keepX l f.p) A' (keepX l f.p).length c' i f w2.heap.size (w2.alloc (.cells #[.string f.p, .slice f.A f.b.length f.c] 41)) (H1.out.below hb23) rfl (by omega) hi (by have h1 := HG1.out.size; have h2 := hb23.size; omega) (fun a e => by
      subst e
      obtain ⟨_, cur, hh⟩ := H1.out.row (g := a.block) rfl
      have h1 := (Array.getElem?_eq_some_iff.1 hh).1
      have h2 := hb2.size
      omega) (heap_alloc_new w2 _)
  have hgr : ∀ w', (w2.alloc (.cells #[.string f.p, .slice f.A f.b.length f.c] 41)).grownBy w' (Value.slice A' (keepX l f.p).length c').ownBlock → w.grownBy w' (Value.slice A n c).ownBlock := fun w' hg' =>
    grown_trans2 (grown_trans2 HG1.out (grownN hb23 _) (.inl rfl)) hg' (H3.out.imp id fun hh q e => Nat.le_trans HB.out.size (hh q e))
  have HINS := Lib.hid hins; clear hins
  have HGR := Lib.hid hgr; clear hgr
  clear hb2 hb3 hb23
  rcases idxF_cases (fun x : FX => ltB f.p.data.toList x.p.data.toList) (keepX l f.p) with ⟨i1, i2⟩ | ⟨k, x, i1, i2, i3, i4⟩
  · have hab : aboveX (keepX l f.p) f.p = (keepX l f.p).length := aboveX_miss i2
    rw [i1]
    clear i1 i2
    have HAB := Lib.hid hab; clear hab
    go_wp2_with fail
    refine (HINS.out (keepX l f.p).length (Nat.le_refl _)).mono ?_
    rintro e w3 ⟨v3, rfl, k1, k2⟩
    have K1 := Lib.hid k1; clear k1
    have K2 := Lib.hid (HGR.out _ k2); clear k2
    obtain ⟨A3, n3, c3, rfl⟩ : ∃ A n c, v3 = .slice A n c := by
      rcases K1.out.form with ⟨rfl, _⟩ | ⟨g, cap, cur, rfl, _⟩
      · exact ⟨_, _, _, rfl⟩
      · exact ⟨_, _, _, rfl⟩
    go_wp2_with fail
    go_ret
    refine ⟨_, rfl, ?_, K2.out⟩
    unfold putX
    rw [HAB.out]; exact K1.out
  · have hab : aboveX (keepX l f.p) f.p = k := aboveX_hit i2 i3 i4
    have hkl : k ≤ (keepX l f.p).length := Nat.le_of_lt (List.getElem?_eq_some_iff.1 i2).1
    rw [i1]
    clear i1 i2 i3 i4
    have HAB := Lib.hid hab; clear hab
    have k0 : ¬ (k : Int) < 0 := by omega
    go_wp2_with fail
    refine (HINS.out k hkl).mono ?_
    rintro e w3 ⟨v3, rfl, k1, k2⟩
    have K1 := Lib.hid k1; clear k1
    have K2 := Lib.hid (HGR.out _ k2); clear k2
    obtain ⟨A3, n3, c3, rfl⟩ : ∃ A n c, v3 = .slice A n c := by
      rcases K1.out.form with ⟨rfl, _⟩ | ⟨g, cap, cur, rfl, _⟩
      · exact ⟨_, _, _, rfl⟩
      · exact ⟨_, _, _, rfl⟩
    go_wp2_with fail
    go_ret
    refine ⟨_, rfl, ?_, K2.out⟩
    unfold putX
    rw [HAB.out]; exact K1.out
end Go.Proofs.YtedcaodbcognjaaDoor
