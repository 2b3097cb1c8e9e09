/-
  tree.put, tree.changed on a row of files of the call's own. · tree.own: each file of a row of the call's own gets bytes of its own; slices.Clone of a tree. · slices.Clone of a tree; tree.Drop, tree.Put. · tree.Drop, tree.Put. · tree.Get.
-/
import Derived.Test.YtffhfllikamccaaGreatDoorTGrow
import Derived.Test.YtffhfllikamccaaGreatDoorTLaws
import Derived.Lib.Hide
namespace Go.Proofs.YtffhfllikamccaaGreatDoor
open Go Go.RowKit Go.Shelf Go.Proofs

/-- The place of the first file whose path is above; their number, if there is none. -/
def aboveX (l : List FX) (s : ByteArray) : Nat := (l.takeWhile fun x => !ltB s.data.toList x.p.data.toList).length
def putX (l : List FX) (f : FX) : List FX := insX (keepX l f.p) (aboveX (keepX l f.p) f.p) f
theorem aboveX_le (l : List FX) (s : ByteArray) : aboveX l s ≤ l.length := (List.takeWhile_prefix _).length_le
theorem aboveX_hit {l : List FX} {s : ByteArray} {k : Nat} {x : FX} (hx : l[k]? = some x) (hp : ltB s.data.toList x.p.data.toList = true) (hn : ∀ j y, j < k → l[j]? = some y → ltB s.data.toList y.p.data.toList = false) : aboveX l s = k := by
  induction l generalizing k with
  | nil => simp at hx
  | cons z l ih =>
    unfold aboveX
    cases k with
    | zero => simp at hx; subst hx; simp [hp]
    | succ k =>
      have hz := hn 0 z (by omega) rfl
      have := ih (k := k) (by simpa using hx) (fun j y hj hy => hn (j + 1) y (by omega) (by simpa using hy))
      unfold aboveX at this
      simp [hz, this]
theorem aboveX_miss {l : List FX} {s : ByteArray} (hn : ∀ y ∈ l, ltB s.data.toList y.p.data.toList = false) : aboveX l s = l.length := by
  unfold aboveX
  induction l with
  | nil => rfl
  | cons z l ih =>
    have hz := hn z (by simp)
    simp [hz, ih fun y hy => hn y (by simp [hy])]
theorem putX_fls (l : List FX) (f : FX) : flsX (putX l f) = putT (flsX l) f.fl := by
  unfold putX putT
  rw [show f.fl.1 = f.p.data.toList from rfl, ← keepX_fls]
  generalize keepX l f.p = m
  unfold insX insT aboveX flsX
  have e : (m.map FX.fl).takeWhile (fun x => !ltB f.fl.1 x.1) = (m.takeWhile fun x => !ltB f.p.data.toList x.p.data.toList).map FX.fl := by
    rw [List.takeWhile_map]; rfl
  have e2 : (m.map FX.fl).dropWhile (fun x => !ltB f.fl.1 x.1) = (m.dropWhile fun x => !ltB f.p.data.toList x.p.data.toList).map FX.fl := by
    rw [List.dropWhile_map]; rfl
  rw [e, e2, List.map_append, List.map_cons]
  have h1 : m.take (m.takeWhile fun x => !ltB f.p.data.toList x.p.data.toList).length = m.takeWhile fun x => !ltB f.p.data.toList x.p.data.toList := by
    conv => lhs; rw [← List.takeWhile_append_dropWhile (p := fun x : FX => !ltB f.p.data.toList x.p.data.toList) (l := m)]
    rw [List.takeWhile_append_dropWhile]
    exact (List.prefix_iff_eq_take.1 (List.takeWhile_prefix _)).symm
  have h2 : m.drop (m.takeWhile fun x => !ltB f.p.data.toList x.p.data.toList).length = m.dropWhile fun x => !ltB f.p.data.toList x.p.data.toList := by
    have h3 := List.take_append_drop (m.takeWhile fun x => !ltB f.p.data.toList x.p.data.toList).length m
    rw [h1] at h3
    have h4 : m.takeWhile (fun x => !ltB f.p.data.toList x.p.data.toList) ++ m.drop (m.takeWhile fun x => !ltB f.p.data.toList x.p.data.toList).length = m.takeWhile (fun x => !ltB f.p.data.toList x.p.data.toList) ++ m.dropWhile (fun x => !ltB f.p.data.toList x.p.data.toList) := by
      rw [h3, List.takeWhile_append_dropWhile]
    exact List.append_cancel_left h4
  rw [h1, h2]

set_option maxRecDepth 100000 in
set_option maxHeartbeats 4000000 in
theorem put_any (base : Nat) (l : List FX) (v : Value) (f : FX) (w : World) (h : FilesOwn base w v l) (hl : l.length ≤ 90000) (hbase : base ≤ w.heap.size) :
    Calls Tryz.prog 74 #[v, .agg #[.string f.p, .slice f.A f.b.length f.c]] w (InsPost base v w (putX l f)) := by
  obtain ⟨A, n, c, rfl⟩ : ∃ A n c, v = .slice A n c := by
    rcases h.form with ⟨rfl, _⟩ | ⟨g, cap, cur, rfl, _⟩
    · exact ⟨_, _, _, rfl⟩
    · exact ⟨_, _, _, rfl⟩
  obtain ⟨W, hW⟩ : ∃ W, w.alloc (.cells #[.string f.p, .slice f.A f.b.length f.c] 65) = W := ⟨_, rfl⟩
  have hb : Below w.heap.size w W := by rw [← hW]; exact (Below.refl _ w).alloc (Nat.le_refl _) _
  have hbx : W.heap[w.heap.size]? = some (Obj.cells #[.string f.p, .slice f.A f.b.length f.c] 65 (0, 0)) := by rw [← hW]; exact heap_alloc_new w _
  have hne : (Value.slice A n c).ownBlock ≠ some w.heap.size := fun e => by
    obtain ⟨_, cur, hh⟩ := h.row e
    exact absurd (Array.getElem?_eq_some_iff.1 hh).1 (Nat.lt_irrefl _)
  have H := drop_any base l (.slice A n c) f.p W (h.below hb) (by omega)
  have HC := Lib.hid H; clear H
  have HB := Lib.hid hb; clear hb
  have HBX := Lib.hid hbx
  have c0 : W.cell? ⟨w.heap.size, 0, none⟩ = some (.string f.p) := cell_of_row _ _ 0 _ _ _ hbx
  clear hbx
  have HF := Lib.hid h; clear h
  have HNE := Lib.hid hne; clear hne
  go_enter Tryz.func74, Tryz.ntmps74
  go_wp2_with fail
  refine HC.out.mono ?_
  rintro e w1 ⟨v', rfl, h1, h2, h3⟩
  have hbx1 : w1.heap[w.heap.size]? = some (Obj.cells #[.string f.p, .slice f.A f.b.length f.c] 65 (0, 0)) := (h2.block _ (Array.getElem?_eq_some_iff.1 HBX.out).1 (fun e => HNE.out e.symm)).trans HBX.out
  have hg1 : w.grownBy w1 (Value.slice A n c).ownBlock := grown_trans2 (grownN HB.out _) h2 (.inl rfl)
  have hk : (keepX l f.p).length ≤ 90000 := Nat.le_trans (List.length_filter_le _ _) hl
  have hpr : PredF 94 #[.pointer (some ⟨w.heap.size, 0, none⟩)] (fun x => ltB f.p.data.toList x.p.data.toList) (keepX l f.p) w1 :=
    fun W' x _ hW' => put1_any x f.p w.heap.size W' (Nat.lt_of_lt_of_le (Array.getElem?_eq_some_iff.1 hbx1).1 hW'.size) ((hW'.cell (p := ⟨w.heap.size, 0, none⟩) (Array.getElem?_eq_some_iff.1 hbx1).1).trans (cell_of_row _ _ 0 _ _ _ hbx1))
  clear c0
  have HBX1 := Lib.hid hbx1; clear hbx1
  have HG1 := Lib.hid hg1; clear hg1 h2
  have H3 := Lib.hid h3; clear h3
  obtain ⟨A', n', c', rfl⟩ : ∃ A n c, v' = .slice A n c := by
    rcases h1.form with ⟨rfl, _⟩ | ⟨g, cap, cur, rfl, _⟩
    · exact ⟨_, _, _, rfl⟩
    · exact ⟨_, _, _, rfl⟩
  obtain ⟨hn', hrow'⟩ : n' = (keepX l f.p).length ∧ (0 < (keepX l f.p).length → ∃ b o, A' = some ⟨b, o, none⟩ ∧ RowF w1 b o (keepX l f.p)) := by
    rcases h1.form with ⟨e1, e2⟩ | ⟨g, cap, cur, e1, _⟩
    · cases e1; rw [e2]; exact ⟨rfl, fun h => absurd h (by simp)⟩
    · cases e1; exact ⟨rfl, fun _ => ⟨g, 0, rfl, h1.rowF⟩⟩
  subst hn'
  have HI := Lib.hid (indexF_any 94 #[.pointer (some ⟨w.heap.size, 0, none⟩)] (fun x => ltB f.p.data.toList x.p.data.toList) (keepX l f.p) A' c' w1 (enters_of (P := Tryz.prog) Tryz.func94 (by kernel_rfl) rfl) hpr (by unfold maxLen; omega) hrow')
  have H1 := Lib.hid h1; clear h1 hpr hrow'
  go_wp2_with fail
  refine HI.out.mono ?_
  rintro e w2 ⟨rfl, hb2⟩
  have hbx2 : w2.heap[w.heap.size]? = some (Obj.cells #[.string f.p, .slice f.A f.b.length f.c] 65 (0, 0)) := (hb2.block _ (Array.getElem?_eq_some_iff.1 HBX1.out).1).trans HBX1.out
  have d0 : w2.cell? ⟨w.heap.size, 0, none⟩ = some (.string f.p) := cell_of_row _ _ 0 _ _ _ hbx2
  have d1 : w2.cell? ⟨w.heap.size, 1, none⟩ = some (.slice f.A f.b.length f.c) := cell_of_row _ _ 1 _ _ _ hbx2
  clear hbx2
  have hb3 : Below w2.heap.size w2 (w2.alloc (.cells #[.string f.p, .slice f.A f.b.length f.c] 65)) := (Below.refl _ _).alloc (Nat.le_refl _) _
  have hb23 : Below w1.heap.size w1 (w2.alloc (.cells #[.string f.p, .slice f.A f.b.length f.c] 65)) := hb2.trans (hb3.mono hb2.size)
  have hins := fun (i : Nat) (hi : i ≤ (keepX l f.p).length) => insert_any base (keepX l f.p) A' (keepX l f.p).length c' i f w2.heap.size (w2.alloc (.cells #[.string f.p, .slice f.A f.b.length f.c] 65)) (H1.out.below hb23) rfl (by omega) hi (by have h1 := HG1.out.size; have h2 := hb23.size; omega) (fun a e => by
      subst e
      obtain ⟨_, cur, hh⟩ := H1.out.row (g := a.block) rfl
      have h1 := (Array.getElem?_eq_some_iff.1 hh).1
      have h2 := hb2.size
      omega) (heap_alloc_new w2 _)
  have hgr : ∀ w', (w2.alloc (.cells #[.string f.p, .slice f.A f.b.length f.c] 65)).grownBy w' (Value.slice A' (keepX l f.p).length c').ownBlock → w.grownBy w' (Value.slice A n c).ownBlock := fun w' hg' =>
    grown_trans2 (grown_trans2 HG1.out (grownN hb23 _) (.inl rfl)) hg' (H3.out.imp id fun hh q e => Nat.le_trans HB.out.size (hh q e))
  have HINS := Lib.hid hins; clear hins
  have HGR := Lib.hid hgr; clear hgr
  clear hb2 hb3 hb23
  rcases idxF_cases (fun x : FX => ltB f.p.data.toList x.p.data.toList) (keepX l f.p) with ⟨i1, i2⟩ | ⟨k, x, i1, i2, i3, i4⟩
  · have hab : aboveX (keepX l f.p) f.p = (keepX l f.p).length := aboveX_miss i2
    rw [i1]
    clear i1 i2
    have HAB := Lib.hid hab; clear hab
    go_wp2_with fail
    refine (HINS.out (keepX l f.p).length (Nat.le_refl _)).mono ?_
    rintro e w3 ⟨v3, rfl, k1, k2⟩
    have K1 := Lib.hid k1; clear k1
    have K2 := Lib.hid (HGR.out _ k2); clear k2
    obtain ⟨A3, n3, c3, rfl⟩ : ∃ A n c, v3 = .slice A n c := by
      rcases K1.out.form with ⟨rfl, _⟩ | ⟨g, cap, cur, rfl, _⟩
      · exact ⟨_, _, _, rfl⟩
      · exact ⟨_, _, _, rfl⟩
    go_wp2_with fail
    go_ret
    refine ⟨_, rfl, ?_, K2.out⟩
    unfold putX
    rw [HAB.out]; exact K1.out
  · have hab : aboveX (keepX l f.p) f.p = k := aboveX_hit i2 i3 i4
    have hkl : k ≤ (keepX l f.p).length := Nat.le_of_lt (List.getElem?_eq_some_iff.1 i2).1
    rw [i1]
    clear i1 i2 i3 i4
    have HAB := Lib.hid hab; clear hab
    have k0 : ¬ (k : Int) < 0 := by omega
    go_wp2_with fail
    refine (HINS.out k hkl).mono ?_
    rintro e w3 ⟨v3, rfl, k1, k2⟩
    have K1 := Lib.hid k1; clear k1
    have K2 := Lib.hid (HGR.out _ k2); clear k2
    obtain ⟨A3, n3, c3, rfl⟩ : ∃ A n c, v3 = .slice A n c := by
      rcases K1.out.form with ⟨rfl, _⟩ | ⟨g, cap, cur, rfl, _⟩
      · exact ⟨_, _, _, rfl⟩
      · exact ⟨_, _, _, rfl⟩
    go_wp2_with fail
    go_ret
    refine ⟨_, rfl, ?_, K2.out⟩
    unfold putX
    rw [HAB.out]; exact K1.out
end Go.Proofs.YtffhfllikamccaaGreatDoor
namespace Go.Proofs.YtffhfllikamccaaGreatDoor
open Go Go.RowKit Go.Shelf Go.Proofs

/-- In the loop: the first k have bytes of their own. -/
structure OwnInv (base : Nat) (l : List FX) (v : Value) (w : World) (k : Nat) (wr : World) (m : List FX) : Prop where
  own : FilesOwn base wr v m
  len : m.length = l.length
  same : flsX m = flsX l
  rest : m.drop k = l.drop k
  bod : ∀ j x, j < k → m[j]? = some x → BytesOwn wr x.A x.b
  grown : w.grownBy wr v.ownBlock
/-- Their bytes lie below block B, and are there. -/
def BodiesLow (B : Nat) (w : World) (l : List FX) : Prop := ∀ x ∈ l, BytesAt w x.A x.b ∧ LowA B x.A x.b ∧ x.b.length ≤ 1000000
theorem BodiesLow.grown {B : Nat} {w w' : World} {l : List FX} {row : Option Nat} (h : BodiesLow B w l) (hg : w.grownBy w' row) (hr : ∀ g, row = some g → B ≤ g) : BodiesLow B w' l := fun x hx => by
  obtain ⟨h1, h2, h3⟩ := h x hx
  refine ⟨fun hn => ?_, h2, h3⟩
  exact (h1.keep (w' := w') (fun g o e hl => hg.block g hl (fun e2 => by
    have := h2 hn g o none e
    have := hr g e2.symm
    omega))) hn

def OwnPost (base : Nat) (v : Value) (l : List FX) (w : World) (e : Ending) (w' : World) : Prop := ∃ l', e = .returned v ∧ FilesOwn base w' v l' ∧ flsX l' = flsX l ∧ (∀ x ∈ l', BytesOwn w' x.A x.b) ∧ w.grownBy w' v.ownBlock

theorem FilesOwn.storeBody {base : Nat} {W : World} {g n cap : Nat} {l : List FX} (h : FilesOwn base W (.slice (some ⟨g, 0, none⟩) n cap) l) (hn : n = l.length) {i : Nat} {x : FX} (hx : l[i]? = some x) (A' : Option Addr) (c' : Nat) :
    FilesOwn base (W.setCell ⟨g, i * 2 + 1, none⟩ (.slice A' x.b.length c')) (.slice (some ⟨g, 0, none⟩) n cap) (l.set i ⟨x.p, A', c', x.b⟩) := by
  subst hn
  have h2 := (World.ownsRow.stored h (i * 2 + 1) (.slice A' x.b.length c')).1
  unfold FilesOwn
  rw [List.length_set, ← fcells_set]
  have e : (fcells l).set (i * 2) (.string x.p) = fcells l := by
    obtain ⟨hl, he⟩ := List.getElem?_eq_some_iff.1 (fcells_at l i x hx).1
    rw [← he, List.set_getElem_self]
  show World.ownsRow _ _ _ _ _ _ (((fcells l).set (i * 2) (.string x.p)).set (i * 2 + 1) (.slice A' x.b.length c'))
  rw [e]
  exact h2
theorem OwnInv.next {base : Nat} {l : List FX} {g n c : Nat} {w wr w2 : World} {k : Nat} {m : List FX} {x : FX} {A' : Option Addr} {c' : Nat} (h : OwnInv base l (.slice (some ⟨g, 0, none⟩) n c) w k wr m) (hn : n = m.length) (hx : m[k]? = some x) (hb : Below wr.heap.size wr w2) (hbo : BytesOwn w2 A' x.b) (hgl : base ≤ g) :
    OwnInv base l (.slice (some ⟨g, 0, none⟩) n c) w (k + 1) (w2.setCell ⟨g, k * 2 + 1, none⟩ (.slice A' x.b.length c')) (m.set k ⟨x.p, A', c', x.b⟩) := by
  have hkl := (List.getElem?_eq_some_iff.1 hx).1
  have hrow2 := h.own.below hb
  obtain ⟨_, cur, hh⟩ := hrow2.row (g := g) rfl
  have hkeep : ∀ {A : Option Addr} {b : Bs} (u : Value), BytesOwn w2 A b → BytesOwn (w2.setCell ⟨g, k * 2 + 1, none⟩ u) A b := fun u hb' => hb'.keep fun q cur' hq => Below.heap_setCell _ _ _ _ (fun e => by
    have e : q = g := e
    subst e
    rw [hh] at hq; cases hq)
  have h1 := hrow2.storeBody hn hx A' c'
  refine ⟨h1, by rw [List.length_set]; exact h.len, ?_, ?_, fun j y hj hy => ?_, ?_⟩
  · rw [← h.same]
    unfold flsX
    rw [List.map_set]
    have e : (m.map FX.fl)[k]? = some x.fl := by rw [List.getElem?_map, hx]; rfl
    obtain ⟨hl2, he2⟩ := List.getElem?_eq_some_iff.1 e
    show (m.map FX.fl).set k x.fl = _
    rw [← he2, List.set_getElem_self]
  · rw [List.drop_set_of_lt (by omega), ← List.drop_drop, h.rest, List.drop_drop]
  · by_cases e : j = k
    · subst e
      rw [List.getElem?_set_self hkl] at hy
      cases hy
      exact hkeep _ hbo
    · rw [List.getElem?_set_ne (by omega)] at hy
      exact hkeep _ ((h.bod j y (by omega) hy).below hb)
  · refine grown_trans2 (grown_trans2 h.grown (grownN hb _) (.inl rfl)) (?_ : w2.grownBy _ (some g)) (.inl rfl)
    exact ⟨rfl, rfl, rfl, by simp [World.setCell], fun q hq hne => Below.heap_setCell _ _ _ _ (fun e => hne (by rw [e]))⟩

set_option maxRecDepth 100000 in
set_option maxHeartbeats 2000000 in
theorem own_any (base : Nat) (l : List FX) (v : Value) (w : World) (h : FilesOwn base w v l) (hl : l.length ≤ 100000) (hbo : BodiesLow base w l) :
    Calls Tryz.prog 56 #[v] w (OwnPost base v l w) := by
  obtain ⟨A, n, c, rfl⟩ : ∃ A n c, v = .slice A n c := by
    rcases h.form with ⟨rfl, _⟩ | ⟨g, cap, cur, rfl, _⟩
    · exact ⟨_, _, _, rfl⟩
    · exact ⟨_, _, _, rfl⟩
  obtain ⟨hn, hA⟩ : n = l.length ∧ (0 < n → ∃ g, A = some ⟨g, 0, none⟩ ∧ base ≤ g) := by
    rcases h.form with ⟨e1, e2⟩ | ⟨g, cap, cur, e1, e2, _⟩
    · cases e1; rw [e2]; exact ⟨rfl, fun h => absurd h (by simp)⟩
    · cases e1; exact ⟨rfl, fun _ => ⟨g, rfl, e2⟩⟩
  have hl2 : n ≤ 100000 := by omega
  have HBO := Lib.hid hbo; clear hbo
  have HN := Lib.hid hn; clear hn
  have HA := Lib.hid hA; clear hA
  have HF := Lib.hid h; clear h
  go_enter Tryz.func56, Tryz.ntmps56
  go_wp2_with fail
  go_loopw [6] (fun s6 wr => ∃ (k : Nat) (m : List FX), k ≤ n ∧ s6 = .int .i64 k ∧ Hid (OwnInv base l (.slice A n c) w k wr m)) (fun s6 _ => n - (intOf s6).toNat)
  case atStart => exact ⟨0, l, Nat.zero_le _, rfl, HF.out, rfl, rfl, rfl, fun j x hj => absurd hj (Nat.not_lt_zero _), World.grownBy.refl w _⟩
  case round =>
    obtain ⟨k, m, hk, rfl, HI⟩ := hrel
    by_cases hlt : k < n
    · obtain ⟨g, hAg, hbg⟩ := HA.out (by omega)
      subst hAg
      obtain ⟨x, hx⟩ : ∃ x, m[k]? = some x := ⟨_, List.getElem?_eq_getElem (by rw [HI.out.len, ← HN.out]; exact hlt)⟩
      have hlx : l[k]? = some x := by rw [← List.head?_drop, ← HI.out.rest, List.head?_drop, hx]
      obtain ⟨_, c2⟩ := HI.out.own.rowF k x hx
      rw [Nat.zero_add] at c2
      have f2 := HI.out.own.frozen (k * 2 + 1)
      have hgl : g < wr.heap.size := World.block_lt_of_cell? wr (a := ⟨g, k * 2 + 1, none⟩) c2
      obtain ⟨b1, _, b3⟩ := HBO.out.grown HI.out.grown (fun q e => by cases e; exact hbg) x (List.mem_of_getElem? hlx)
      have HC := Lib.hid (bclone_any x.A x.c x.b wr b1 b3)
      have q1 : (k : Int) < (n : Int) := by omega
      have HX := Lib.hid hx; clear hx hlx b1
      go_wp2_with fail
      refine HC.out.mono ?_
      rintro e w2 ⟨A', c', rfl, ho, hb2⟩
      have e2 : w2.cell? ⟨g, k * 2 + 1, none⟩ = some (.slice x.A x.b.length x.c) := (hb2.cell (p := ⟨g, k * 2 + 1, none⟩) hgl).trans c2
      have e3 : w2.frozen? ⟨g, k * 2 + 1, none⟩ = false := (hb2.frozen (p := ⟨g, k * 2 + 1, none⟩) hgl).trans f2
      clear c2 f2
      have HO := Lib.hid ho; clear ho
      have HB2 := Lib.hid hb2; clear hb2
      go_wp2_with fail
      go_roundw
      case rel => exact ⟨k + 1, m.set k ⟨x.p, A', c', x.b⟩, by omega, by go_num, HI.out.next (by rw [HI.out.len]; exact HN.out) HX.out HB2.out HO.out hbg⟩
      case measure => simp [intOf]; omega
    · obtain rfl : k = n := by omega
      go_wp2_with fail
      go_ret
      refine ⟨m, rfl, HI.out.own, HI.out.same, fun x hx => ?_, HI.out.grown⟩
      obtain ⟨j, hj⟩ := List.mem_iff_getElem?.1 hx
      have hjl := (List.getElem?_eq_some_iff.1 hj).1
      exact HI.out.bod j x (by rw [HI.out.len, ← HN.out] at hjl; exact hjl) hj
end Go.Proofs.YtffhfllikamccaaGreatDoor
namespace Go.Proofs.YtffhfllikamccaaGreatDoor
open Go Go.RowKit Go.Shelf Go.Proofs

theorem treeAt_cells {w : World} {A : Option Addr} {c : Nat} {l : List FX} (h : TreeAt w A c l) {a : Addr} (hA : A = some a) : ∀ j u, (fcells l)[j]? = some u → w.cell? (a.add j) = some u := by
  intro j u hu
  have hjl := (List.getElem?_eq_some_iff.1 hu).1
  rw [fcells_length] at hjl
  obtain ⟨g, o, e, hr⟩ := h.row (by omega)
  rw [hA] at e
  cases e
  rw [Go.WideShapes.add_plain]
  obtain ⟨x, hx⟩ : ∃ x, l[j / 2]? = some x := ⟨_, List.getElem?_eq_getElem (by omega)⟩
  obtain ⟨c1, c2⟩ := hr _ x hx
  obtain ⟨f1, f2⟩ := fcells_at l _ x hx
  rcases Nat.mod_two_eq_zero_or_one j with e | e
  · rw [show j / 2 * 2 = j from by omega] at c1 f1
    rw [c1, ← f1, hu]
  · rw [show o + j / 2 * 2 + 1 = o + j from by omega] at c2
    rw [show j / 2 * 2 + 1 = j from by omega] at f2
    rw [c2, ← f2, hu]

set_option maxHeartbeats 1000000 in
theorem clone_any (l : List FX) (A : Option Addr) (c : Nat) (w : World) (h : TreeAt w A c l) (hl : l.length ≤ 100000) :
    Calls Tryz.prog 53 #[.slice A l.length c] w fun e w' => ∃ v', e = .returned v' ∧ FilesOwn w.heap.size w' v' l ∧ Below w.heap.size w w' := by
  obtain ⟨i0, hi, hz0, hz1, hz2⟩ := info_parts file_info
  cases A with
  | none =>
    have hn : l = [] := by
      cases l with
      | nil => rfl
      | cons x r => obtain ⟨g, o, e, _⟩ := h.row (by simp); cases e
    subst hn
    have q := fun (w : World) (a : Option Addr) (n c n' c' : Nat) => Lib.run_eql_slice_nil (P := Tryz.prog) w 23 65 a n c n' c' Tryz.underlying23
    go_enter Tryz.func53, Tryz.ntmps53
    go_wp2_with fail
    go_ret
    exact ⟨_, rfl, World.ownsRow_nil _ _ _ _, Below.refl _ _⟩
  | some a =>
    have hcs := treeAt_cells h rfl
    have HCS := Lib.hid hcs; clear hcs
    have HT := Lib.hid h; clear h
    have HI := Lib.hid hi; clear hi
    have q := fun (w : World) (a : Option Addr) (n c n' c' : Nat) => Lib.run_eql_slice_nil (P := Tryz.prog) w 23 65 a n c n' c' Tryz.underlying23
    go_enter Tryz.func53, Tryz.ntmps53
    go_wp2_with (at_builtin; refine wpList_append_own _ rfl _ _ 23 rfl w.heap.size 65 i0 (.agg #[.string ⟨#[]⟩, .slice none 0 0]) 2 40 Tryz.underlying23 HI.out hz0 hz1 hz2 rfl (by decide) _ _ _ rfl (World.ownsRow_made w #[] 0 (Nat.le_refl _) (Nat.zero_le _) rfl) a l.length c (fcells l) rfl (fcells_length l) ?qc2 (fcells_one l) ?qc4 ?qc5 ?qc6 ?_)
    case qc2 => intro j u hj; exact Lib.cell?_alloc_some _ (HCS.out j u hj)
    case qc4 => unfold maxLen; omega
    case qc5 => omega
    case qc6 => simp
    intro v' w1 hown hgrow _
    go_wp2_with fail
    go_ret
    exact ⟨v', rfl, by simpa [FilesOwn] using hown, ((Below.refl _ w).alloc (Nat.le_refl _) _).grown hgrow (by simp) (by intro k hk; simp [Value.ownBlock] at hk; omega)⟩
end Go.Proofs.YtffhfllikamccaaGreatDoor
namespace Go.Proofs.YtffhfllikamccaaGreatDoor
open Go Go.RowKit Go.Shelf Go.Proofs

/-- A tree that a call has made: a row of its own, each file with bytes of its own. -/
structure TreeMade (base : Nat) (w : World) (v : Value) (l : List FX) : Prop where
  own : FilesOwn base w v l
  bod : ∀ x ∈ l, BytesOwn w x.A x.b
theorem FilesOwn.slice {base : Nat} {w : World} {v : Value} {l : List FX} (h : FilesOwn base w v l) : ∃ A c, v = .slice A l.length c := by
  rcases h.form with ⟨rfl, rfl⟩ | ⟨g, cap, cur, rfl, _⟩
  · exact ⟨_, _, rfl⟩
  · exact ⟨_, _, rfl⟩
theorem FilesOwn.tree {base : Nat} {w : World} {A : Option Addr} {n c : Nat} {l : List FX} (h : FilesOwn base w (.slice A n c) l) (hb : FilesAt w l) : n = l.length ∧ TreeAt w A c l := by
  rcases h.form with ⟨e1, e2⟩ | ⟨g, cap, cur, e1, _, _, hc, hcm, _⟩
  · cases e1
    subst e2
    exact ⟨rfl, TreeAt.nil _ _ _ (Nat.zero_le _)⟩
  · cases e1
    exact ⟨rfl, hc, hcm, fun _ => ⟨g, 0, rfl, h.rowF⟩, hb⟩
theorem TreeMade.tree {base : Nat} {w : World} {A : Option Addr} {n c : Nat} {l : List FX} (h : TreeMade base w (.slice A n c) l) : n = l.length ∧ TreeAt w A c l := h.own.tree fun x hx => (h.bod x hx).at_
theorem TreeMade.below {base : Nat} {w w' : World} {v : Value} {l : List FX} (h : TreeMade base w v l) (hb : Below w.heap.size w w') : TreeMade base w' v l := ⟨h.own.below hb, fun x hx => (h.bod x hx).below hb⟩

def TreePost (w : World) (f : List Fl) (e : Ending) (w' : World) : Prop := ∃ v' l', e = .returned v' ∧ TreeMade w.heap.size w' v' l' ∧ flsX l' = f ∧ Below w.heap.size w w'

theorem keepX_sub {l : List FX} {s : ByteArray} : ∀ x ∈ keepX l s, x ∈ l := fun _x hx => (List.mem_filter.1 hx).1
theorem TreeAt.bodies {w : World} {A : Option Addr} {c : Nat} {l : List FX} (h : TreeAt w A c l) (hs : SmallX l) : BodiesLow w.heap.size w l := fun x hx => ⟨h.files x hx, (h.files x hx).low, (hs.2 x hx).2⟩
theorem BodiesLow.below {B : Nat} {w w' : World} {l : List FX} (h : BodiesLow B w l) (hb : Below B w w') : BodiesLow B w' l := fun x hx => by
  obtain ⟨h1, h2, h3⟩ := h x hx
  refine ⟨fun hn => ?_, h2, h3⟩
  exact (h1.keep (w' := w') fun g o e _ => hb.block g (h2 hn g o none e)) hn

theorem run_own (base : Nat) (l : List FX) (v : Value) (w0 w : World) (h : FilesOwn base w v l) (hl : l.length ≤ 100000) (hbo : BodiesLow base w l) (hb : Below base w0 w) (hbase : base ≤ w.heap.size) :
    Calls Tryz.prog 56 #[v] w fun e w' => ∃ l', e = .returned v ∧ TreeMade base w' v l' ∧ flsX l' = flsX l ∧ Below base w0 w' := by
  refine (own_any base l v w h hl hbo).mono ?_
  rintro e w' ⟨l', rfl, h1, h2, h3, h4⟩
  exact ⟨l', rfl, ⟨h1, h3⟩, h2, hb.grown h4 hbase fun g e => (h.row e).1⟩

theorem FilesOwn.lower {base base' : Nat} {W : World} {v : Value} {l : List FX} (h : FilesOwn base W v l) (hb : base' ≤ base) : FilesOwn base' W v l := by
  refine ⟨h.1, ?_⟩
  rcases h.2 with h2 | ⟨g, cap, cur, h1, h2, h3⟩
  · exact .inl h2
  · exact .inr ⟨g, cap, cur, h1, by omega, h3⟩
theorem insX_sub {l : List FX} {i : Nat} {f : FX} : ∀ x ∈ insX l i f, x = f ∨ x ∈ l := fun x hx => by
  unfold insX at hx
  rcases List.mem_append.1 hx with h | h
  · exact .inr (List.mem_of_mem_take h)
  · rcases List.mem_cons.1 h with h | h
    · exact .inl h
    · exact .inr (List.mem_of_mem_drop h)
theorem putX_sub {l : List FX} {f : FX} : ∀ x ∈ putX l f, x = f ∨ x ∈ l := fun x hx => (insX_sub x hx).imp id fun h => keepX_sub x h
theorem putX_le (l : List FX) (f : FX) : (putX l f).length ≤ l.length + 1 := by
  have h1 : (keepX l f.p).length ≤ l.length := List.length_filter_le _ _
  unfold putX insX
  have h2 := aboveX_le (keepX l f.p) f.p
  simp only [List.length_append, List.length_take, List.length_cons, List.length_drop]
  omega
theorem putX_len (l : List FX) (f : FX) (h : l.length ≤ 90000) : (putX l f).length ≤ 100000 := by have := putX_le l f; omega

end Go.Proofs.YtffhfllikamccaaGreatDoor
namespace Go.Proofs.YtffhfllikamccaaGreatDoor
open Go Go.RowKit Go.Shelf Go.Proofs

theorem place_get (l : List FX) (s : ByteArray) : (placeX l s = -1 ∧ getT (flsX l) s.data.toList = none ∧ hasT (flsX l) s.data.toList = false) ∨ ∃ (k : Nat) (x : FX), placeX l s = (k : Int) ∧ l[k]? = some x ∧ getT (flsX l) s.data.toList = some x.b ∧ hasT (flsX l) s.data.toList = true := by
  have hp : ∀ x : FX, (x.fl.1 == s.data.toList) = (x.p.toList == s.toList) := fun x => by simp only [FX.fl, ByteArray.toList_eq]
  have hget : getT (flsX l) s.data.toList = (l.find? fun x => x.p.toList == s.toList).map FX.b := by
    unfold getT flsX
    rw [List.find?_map, Option.map_map]
    have e : ((fun x : Fl => x.1 == s.data.toList) ∘ FX.fl) = fun x : FX => x.p.toList == s.toList := funext hp
    rw [e]; rfl
  have hhas : hasT (flsX l) s.data.toList = l.any fun x => x.p.toList == s.toList := by
    unfold hasT flsX
    rw [List.any_map]
    exact congrArg l.any (funext hp)
  rcases idxF_cases (fun x : FX => x.p.toList == s.toList) l with ⟨h1, h2⟩ | ⟨k, x, h1, h2, h3, h4⟩
  · refine .inl ⟨h1, ?_, ?_⟩
    · rw [hget, List.find?_eq_none.2 (fun y hy => by rw [h2 y hy]; simp)]; rfl
    · rw [hhas, List.any_eq_false]
      exact fun y hy => by rw [h2 y hy]; simp
  · refine .inr ⟨k, x, h1, h2, ?_, ?_⟩
    · obtain ⟨hk, rfl⟩ := List.getElem?_eq_some_iff.1 h2
      rw [hget, (List.find?_eq_some_iff_getElem (p := fun x : FX => x.p.toList == s.toList)).2 ⟨h3, k, hk, rfl, fun j hj => by rw [h4 j _ hj (List.getElem?_eq_getElem (by omega))]; rfl⟩]; rfl
    · rw [hhas, List.any_eq_true]
      exact ⟨x, List.mem_of_getElem? h2, h3⟩

def GetPost (w : World) (r : Option Bs) (e : Ending) (w' : World) : Prop := match r with
  | none => e = .returned (.tuple #[.slice none 0 0, .bool false]) ∧ Below w.heap.size w w'
  | some b => ∃ A c, e = .returned (.tuple #[.slice A b.length c, .bool true]) ∧ BytesOwn w' A b ∧ Below w.heap.size w w'

end Go.Proofs.YtffhfllikamccaaGreatDoor
