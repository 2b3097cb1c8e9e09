/-
  tree.put, tree.changed on a row of files of the call's own. · tree.own: each file of a row of the call's own gets bytes of its own; slices.Clone of a tree. · slices.Clone of a tree; tree.Drop, tree.Put. · tree.Drop, tree.Put. · tree.Get.
-/
import Derived.Test.YtkihgbggndikpaaGreatDoorTGrow
import Derived.Test.YtkihgbggndikpaaGreatDoorTLaws
import Derived.Lib.Hide
namespace Go.Proofs.YtkihgbggndikpaaGreatDoor
open Go Go.RowKit Go.Shelf Go.Proofs

/-- The place of the first file whose path is above; their number, if there is none. -/
def aboveX (l : List FX) (s : ByteArray) : Nat := (l.takeWhile fun x => !ltB s.data.toList x.p.data.toList).length
def putX (l : List FX) (f : FX) : List FX := insX (keepX l f.p) (aboveX (keepX l f.p) f.p) f
theorem aboveX_le (l : List FX) (s : ByteArray) : aboveX l s ≤ l.length := (List.takeWhile_prefix _).length_le
theorem aboveX_hit {l : List FX} {s : ByteArray} {k : Nat} {x : FX} (hx : l[k]? = some x) (hp : ltB s.data.toList x.p.data.toList = true) (hn : ∀ j y, j < k → l[j]? = some y → ltB s.data.toList y.p.data.toList = false) : aboveX l s = k := by
  induction l generalizing k with
  | nil => simp at hx
  | cons z l ih =>
    unfold aboveX
    cases k with
    | zero => simp at hx; subst hx; simp [hp]
    | succ k =>
      have hz := hn 0 z (by omega) rfl
      have := ih (k := k) (by simpa using hx) (fun j y hj hy => hn (j + 1) y (by omega) (by simpa using hy))
      unfold aboveX at this
      simp [hz, this]
theorem aboveX_miss {l : List FX} {s : ByteArray} (hn : ∀ y ∈ l, ltB s.data.toList y.p.data.toList = false) : aboveX l s = l.length := by
  unfold aboveX
  induction l with
  | nil => rfl
  | cons z l ih =>
    have hz := hn z (by simp)
    simp [hz, ih fun y hy => hn y (by simp [hy])]
theorem putX_fls (l : List FX) (f : FX) : flsX (putX l f) = putT (flsX l) f.fl := by
  unfold putX putT
  rw [show f.fl.1 = f.p.data.toList from rfl, ← keepX_fls]
  generalize keepX l f.p = m
  unfold insX insT aboveX flsX
  have e : (m.map FX.fl).takeWhile (fun x => !ltB f.fl.1 x.1) = (m.takeWhile fun x => !ltB f.p.data.toList x.p.data.toList).map FX.fl := by
    rw [List.takeWhile_map]; rfl
  have e2 : (m.map FX.fl).dropWhile (fun x => !ltB f.fl.1 x.1) = (m.dropWhile fun x => !ltB f.p.data.toList x.p.data.toList).map FX.fl := by
    rw [List.dropWhile_map]; rfl
  rw [e, e2, List.map_append, List.map_cons]
  have h1 : m.take (m.takeWhile fun x => !ltB f.p.data.toList x.p.data.toList).length = m.takeWhile fun x => !ltB f.p.data.toList x.p.data.toList := by
    conv => lhs; rw [← List.takeWhile_append_dropWhile (p := fun x : FX => !ltB f.p.data.toList x.p.data.toList) (l := m)]
    rw [List.takeWhile_append_dropWhile]
    exact (List.prefix_iff_eq_take.1 (List.takeWhile_prefix _)).symm
  have h2 : m.drop (m.takeWhile fun x => !ltB f.p.data.toList x.p.data.toList).length = m.dropWhile fun x => !ltB f.p.data.toList x.p.data.toList := by
    have h3 := List.take_append_drop (m.takeWhile fun x => !ltB f.p.data.toList x.p.data.toList).length m
    rw [h1] at h3
    have h4 : m.takeWhile (fun x => !ltB f.p.data.toList x.p.data.toList) ++ m.drop (m.takeWhile fun x => !ltB f.p.data.toList x.p.data.toList).length = m.takeWhile (fun x => !ltB f.p.data.toList x.p.data.toList) ++ m.dropWhile (fun x => !ltB f.p.data.toList x.p.data.toList) := by
      rw [h3, List.takeWhile_append_dropWhile]
    exact List.append_cancel_left h4
  rw [h1, h2]

end Go.Proofs.YtkihgbggndikpaaGreatDoor
namespace Go.Proofs.YtkihgbggndikpaaGreatDoor
open Go Go.RowKit Go.Shelf Go.Proofs

/-- In the loop: the first k have bytes of their own. -/
structure OwnInv (base : Nat) (l : List FX) (v : Value) (w : World) (k : Nat) (wr : World) (m : List FX) : Prop where
  own : FilesOwn base wr v m
  len : m.length = l.length
  same : flsX m = flsX l
  rest : m.drop k = l.drop k
  bod : ∀ j x, j < k → m[j]? = some x → BytesOwn wr x.A x.b
  grown : w.grownBy wr v.ownBlock
/-- Their bytes lie below block B, and are there. -/
def BodiesLow (B : Nat) (w : World) (l : List FX) : Prop := ∀ x ∈ l, BytesAt w x.A x.b ∧ LowA B x.A x.b ∧ x.b.length ≤ 1000000
theorem BodiesLow.grown {B : Nat} {w w' : World} {l : List FX} {row : Option Nat} (h : BodiesLow B w l) (hg : w.grownBy w' row) (hr : ∀ g, row = some g → B ≤ g) : BodiesLow B w' l := fun x hx => by
  obtain ⟨h1, h2, h3⟩ := h x hx
  refine ⟨fun hn => ?_, h2, h3⟩
  exact (h1.keep (w' := w') (fun g o e hl => hg.block g hl (fun e2 => by
    have := h2 hn g o none e
    have := hr g e2.symm
    omega))) hn

def OwnPost (base : Nat) (v : Value) (l : List FX) (w : World) (e : Ending) (w' : World) : Prop := ∃ l', e = .returned v ∧ FilesOwn base w' v l' ∧ flsX l' = flsX l ∧ (∀ x ∈ l', BytesOwn w' x.A x.b) ∧ w.grownBy w' v.ownBlock

theorem FilesOwn.storeBody {base : Nat} {W : World} {g n cap : Nat} {l : List FX} (h : FilesOwn base W (.slice (some ⟨g, 0, none⟩) n cap) l) (hn : n = l.length) {i : Nat} {x : FX} (hx : l[i]? = some x) (A' : Option Addr) (c' : Nat) :
    FilesOwn base (W.setCell ⟨g, i * 2 + 1, none⟩ (.slice A' x.b.length c')) (.slice (some ⟨g, 0, none⟩) n cap) (l.set i ⟨x.p, A', c', x.b⟩) := by
  subst hn
  have h2 := (World.ownsRow.stored h (i * 2 + 1) (.slice A' x.b.length c')).1
  unfold FilesOwn
  rw [List.length_set, ← fcells_set]
  have e : (fcells l).set (i * 2) (.string x.p) = fcells l := by
    obtain ⟨hl, he⟩ := List.getElem?_eq_some_iff.1 (fcells_at l i x hx).1
    rw [← he, List.set_getElem_self]
  show World.ownsRow _ _ _ _ _ _ (((fcells l).set (i * 2) (.string x.p)).set (i * 2 + 1) (.slice A' x.b.length c'))
  rw [e]
  exact h2
theorem OwnInv.next {base : Nat} {l : List FX} {g n c : Nat} {w wr w2 : World} {k : Nat} {m : List FX} {x : FX} {A' : Option Addr} {c' : Nat} (h : OwnInv base l (.slice (some ⟨g, 0, none⟩) n c) w k wr m) (hn : n = m.length) (hx : m[k]? = some x) (hb : Below wr.heap.size wr w2) (hbo : BytesOwn w2 A' x.b) (hgl : base ≤ g) :
    OwnInv base l (.slice (some ⟨g, 0, none⟩) n c) w (k + 1) (w2.setCell ⟨g, k * 2 + 1, none⟩ (.slice A' x.b.length c')) (m.set k ⟨x.p, A', c', x.b⟩) := by
  have hkl := (List.getElem?_eq_some_iff.1 hx).1
  have hrow2 := h.own.below hb
  obtain ⟨_, cur, hh⟩ := hrow2.row (g := g) rfl
  have hkeep : ∀ {A : Option Addr} {b : Bs} (u : Value), BytesOwn w2 A b → BytesOwn (w2.setCell ⟨g, k * 2 + 1, none⟩ u) A b := fun u hb' => hb'.keep fun q cur' hq => Below.heap_setCell _ _ _ _ (fun e => by
    have e : q = g := e
    subst e
    rw [hh] at hq; cases hq)
  have h1 := hrow2.storeBody hn hx A' c'
  refine ⟨h1, by rw [List.length_set]; exact h.len, ?_, ?_, fun j y hj hy => ?_, ?_⟩
  · rw [← h.same]
    unfold flsX
    rw [List.map_set]
    have e : (m.map FX.fl)[k]? = some x.fl := by rw [List.getElem?_map, hx]; rfl
    obtain ⟨hl2, he2⟩ := List.getElem?_eq_some_iff.1 e
    show (m.map FX.fl).set k x.fl = _
    rw [← he2, List.set_getElem_self]
  · rw [List.drop_set_of_lt (by omega), ← List.drop_drop, h.rest, List.drop_drop]
  · by_cases e : j = k
    · subst e
      rw [List.getElem?_set_self hkl] at hy
      cases hy
      exact hkeep _ hbo
    · rw [List.getElem?_set_ne (by omega)] at hy
      exact hkeep _ ((h.bod j y (by omega) hy).below hb)
  · refine grown_trans2 (grown_trans2 h.grown (grownN hb _) (.inl rfl)) (?_ : w2.grownBy _ (some g)) (.inl rfl)
    exact ⟨rfl, rfl, rfl, by simp [World.setCell], fun q hq hne => Below.heap_setCell _ _ _ _ (fun e => hne (by rw [e]))⟩

end Go.Proofs.YtkihgbggndikpaaGreatDoor
namespace Go.Proofs.YtkihgbggndikpaaGreatDoor
open Go Go.RowKit Go.Shelf Go.Proofs

theorem treeAt_cells {w : World} {A : Option Addr} {c : Nat} {l : List FX} (h : TreeAt w A c l) {a : Addr} (hA : A = some a) : ∀ j u, (fcells l)[j]? = some u → w.cell? (a.add j) = some u := by
  intro j u hu
  have hjl := (List.getElem?_eq_some_iff.1 hu).1
  rw [fcells_length] at hjl
  obtain ⟨g, o, e, hr⟩ := h.row (by omega)
  rw [hA] at e
  cases e
  rw [Go.WideShapes.add_plain]
  obtain ⟨x, hx⟩ : ∃ x, l[j / 2]? = some x := ⟨_, List.getElem?_eq_getElem (by omega)⟩
  obtain ⟨c1, c2⟩ := hr _ x hx
  obtain ⟨f1, f2⟩ := fcells_at l _ x hx
  rcases Nat.mod_two_eq_zero_or_one j with e | e
  · rw [show j / 2 * 2 = j from by omega] at c1 f1
    rw [c1, ← f1, hu]
  · rw [show o + j / 2 * 2 + 1 = o + j from by omega] at c2
    rw [show j / 2 * 2 + 1 = j from by omega] at f2
    rw [c2, ← f2, hu]

end Go.Proofs.YtkihgbggndikpaaGreatDoor
namespace Go.Proofs.YtkihgbggndikpaaGreatDoor
open Go Go.RowKit Go.Shelf Go.Proofs

/-- A tree that a call has made: a row of its own, each file with bytes of its own. -/
structure TreeMade (base : Nat) (w : World) (v : Value) (l : List FX) : Prop where
  own : FilesOwn base w v l
  bod : ∀ x ∈ l, BytesOwn w x.A x.b
theorem FilesOwn.slice {base : Nat} {w : World} {v : Value} {l : List FX} (h : FilesOwn base w v l) : ∃ A c, v = .slice A l.length c := by
  rcases h.form with ⟨rfl, rfl⟩ | ⟨g, cap, cur, rfl, _⟩
  · exact ⟨_, _, rfl⟩
  · exact ⟨_, _, rfl⟩
theorem FilesOwn.tree {base : Nat} {w : World} {A : Option Addr} {n c : Nat} {l : List FX} (h : FilesOwn base w (.slice A n c) l) (hb : FilesAt w l) : n = l.length ∧ TreeAt w A c l := by
  rcases h.form with ⟨e1, e2⟩ | ⟨g, cap, cur, e1, _, _, hc, hcm, _⟩
  · cases e1
    subst e2
    exact ⟨rfl, TreeAt.nil _ _ _ (Nat.zero_le _)⟩
  · cases e1
    exact ⟨rfl, hc, hcm, fun _ => ⟨g, 0, rfl, h.rowF⟩, hb⟩
theorem TreeMade.tree {base : Nat} {w : World} {A : Option Addr} {n c : Nat} {l : List FX} (h : TreeMade base w (.slice A n c) l) : n = l.length ∧ TreeAt w A c l := h.own.tree fun x hx => (h.bod x hx).at_
theorem TreeMade.below {base : Nat} {w w' : World} {v : Value} {l : List FX} (h : TreeMade base w v l) (hb : Below w.heap.size w w') : TreeMade base w' v l := ⟨h.own.below hb, fun x hx => (h.bod x hx).below hb⟩

def TreePost (w : World) (f : List Fl) (e : Ending) (w' : World) : Prop := ∃ v' l', e = .returned v' ∧ TreeMade w.heap.size w' v' l' ∧ flsX l' = f ∧ Below w.heap.size w w'

theorem keepX_sub {l : List FX} {s : ByteArray} : ∀ x ∈ keepX l s, x ∈ l := fun _x hx => (List.mem_filter.1 hx).1
theorem TreeAt.bodies {w : World} {A : Option Addr} {c : Nat} {l : List FX} (h : TreeAt w A c l) (hs : SmallX l) : BodiesLow w.heap.size w l := fun x hx => ⟨h.files x hx, (h.files x hx).low, (hs.2 x hx).2⟩
theorem BodiesLow.below {B : Nat} {w w' : World} {l : List FX} (h : BodiesLow B w l) (hb : Below B w w') : BodiesLow B w' l := fun x hx => by
  obtain ⟨h1, h2, h3⟩ := h x hx
  refine ⟨fun hn => ?_, h2, h3⟩
  exact (h1.keep (w' := w') fun g o e _ => hb.block g (h2 hn g o none e)) hn

theorem FilesOwn.lower {base base' : Nat} {W : World} {v : Value} {l : List FX} (h : FilesOwn base W v l) (hb : base' ≤ base) : FilesOwn base' W v l := by
  refine ⟨h.1, ?_⟩
  rcases h.2 with h2 | ⟨g, cap, cur, h1, h2, h3⟩
  · exact .inl h2
  · exact .inr ⟨g, cap, cur, h1, by omega, h3⟩
theorem insX_sub {l : List FX} {i : Nat} {f : FX} : ∀ x ∈ insX l i f, x = f ∨ x ∈ l := fun x hx => by
  unfold insX at hx
  rcases List.mem_append.1 hx with h | h
  · exact .inr (List.mem_of_mem_take h)
  · rcases List.mem_cons.1 h with h | h
    · exact .inl h
    · exact .inr (List.mem_of_mem_drop h)
theorem putX_sub {l : List FX} {f : FX} : ∀ x ∈ putX l f, x = f ∨ x ∈ l := fun x hx => (insX_sub x hx).imp id fun h => keepX_sub x h
theorem putX_le (l : List FX) (f : FX) : (putX l f).length ≤ l.length + 1 := by
  have h1 : (keepX l f.p).length ≤ l.length := List.length_filter_le _ _
  unfold putX insX
  have h2 := aboveX_le (keepX l f.p) f.p
  simp only [List.length_append, List.length_take, List.length_cons, List.length_drop]
  omega
theorem putX_len (l : List FX) (f : FX) (h : l.length ≤ 90000) : (putX l f).length ≤ 100000 := by have := putX_le l f; omega

end Go.Proofs.YtkihgbggndikpaaGreatDoor
namespace Go.Proofs.YtkihgbggndikpaaGreatDoor
open Go Go.RowKit Go.Shelf Go.Proofs

theorem place_get (l : List FX) (s : ByteArray) : (placeX l s = -1 ∧ getT (flsX l) s.data.toList = none ∧ hasT (flsX l) s.data.toList = false) ∨ ∃ (k : Nat) (x : FX), placeX l s = (k : Int) ∧ l[k]? = some x ∧ getT (flsX l) s.data.toList = some x.b ∧ hasT (flsX l) s.data.toList = true := by
  have hp : ∀ x : FX, (x.fl.1 == s.data.toList) = (x.p.toList == s.toList) := fun x => by simp only [FX.fl, ByteArray.toList_eq]
  have hget : getT (flsX l) s.data.toList = (l.find? fun x => x.p.toList == s.toList).map FX.b := by
    unfold getT flsX
    rw [List.find?_map, Option.map_map]
    have e : ((fun x : Fl => x.1 == s.data.toList) ∘ FX.fl) = fun x : FX => x.p.toList == s.toList := funext hp
    rw [e]; rfl
  have hhas : hasT (flsX l) s.data.toList = l.any fun x => x.p.toList == s.toList := by
    unfold hasT flsX
    rw [List.any_map]
    exact congrArg l.any (funext hp)
  rcases idxF_cases (fun x : FX => x.p.toList == s.toList) l with ⟨h1, h2⟩ | ⟨k, x, h1, h2, h3, h4⟩
  · refine .inl ⟨h1, ?_, ?_⟩
    · rw [hget, List.find?_eq_none.2 (fun y hy => by rw [h2 y hy]; simp)]; rfl
    · rw [hhas, List.any_eq_false]
      exact fun y hy => by rw [h2 y hy]; simp
  · refine .inr ⟨k, x, h1, h2, ?_, ?_⟩
    · obtain ⟨hk, rfl⟩ := List.getElem?_eq_some_iff.1 h2
      rw [hget, (List.find?_eq_some_iff_getElem (p := fun x : FX => x.p.toList == s.toList)).2 ⟨h3, k, hk, rfl, fun j hj => by rw [h4 j _ hj (List.getElem?_eq_getElem (by omega))]; rfl⟩]; rfl
    · rw [hhas, List.any_eq_true]
      exact ⟨x, List.mem_of_getElem? h2, h3⟩

def GetPost (w : World) (r : Option Bs) (e : Ending) (w' : World) : Prop := match r with
  | none => e = .returned (.tuple #[.slice none 0 0, .bool false]) ∧ Below w.heap.size w w'
  | some b => ∃ A c, e = .returned (.tuple #[.slice A b.length c, .bool true]) ∧ BytesOwn w' A b ∧ Below w.heap.size w w'

set_option maxHeartbeats 1000000 in
theorem tget_any (l : List FX) (A : Option Addr) (c : Nat) (s : ByteArray) (w : World) (h : TreeAt w A c l) (hs : SmallX l) :
    Calls Tryz.prog 89 #[.slice A l.length c, .string s] w (GetPost w (getT (flsX l) s.data.toList)) := by
  have HF := Lib.hid (find_any l A c s w h)
  rcases place_get l s with ⟨h1, h2, _⟩ | ⟨k, x, h1, h2, h3, _⟩
  · rw [h2]
    rw [h1] at HF
    clear h1 h2
    have HT := Lib.hid h; clear h
    go_enter Tryz.func89, Tryz.ntmps89
    go_wp2_with fail
    refine HF.out.mono ?_
    rintro e w1 ⟨rfl, hb1⟩
    go_wp2_with fail
    go_ret2
    exact ⟨rfl, hb1⟩
  · rw [h3]
    rw [h1] at HF
    have hkl := (List.getElem?_eq_some_iff.1 h2).1
    obtain ⟨g, o, rfl, hr⟩ := h.row (by omega)
    have hxb := h.files x (List.mem_of_getElem? h2)
    have hxs := (hs.2 x (List.mem_of_getElem? h2)).2
    have c2 := (hr k x h2).2
    have hgl : g < w.heap.size := World.block_lt_of_cell? w (a := ⟨g, o + k * 2 + 1, none⟩) c2
    have k0 : ¬ (k : Int) < 0 := by omega
    have k1 : (k : Int) < (l.length : Int) := by omega
    have HX := Lib.hid hxb; clear hxb
    have HS := Lib.hid hs; clear hs
    clear h1 h2 h3 hr h
    go_enter Tryz.func89, Tryz.ntmps89
    go_wp2_with fail
    refine HF.out.mono ?_
    rintro e w1 ⟨rfl, hb1⟩
    have e2 : w1.cell? ⟨g, o + k * 2 + 1, none⟩ = some (.slice x.A x.b.length x.c) := (hb1.cell (p := ⟨g, o + k * 2 + 1, none⟩) hgl).trans c2
    have HC := Lib.hid (bclone_any x.A x.c x.b w1 (HX.out.below hb1) hxs)
    have HB1 := Lib.hid hb1; clear hb1 c2
    go_wp2_with fail
    refine HC.out.mono ?_
    rintro e w2 ⟨A', c', rfl, ho, hb2⟩
    have HO := Lib.hid ho; clear ho
    go_wp2_with fail
    go_ret2
    exact ⟨A', c', rfl, HO.out, HB1.out.trans (hb2.mono HB1.out.size)⟩
end Go.Proofs.YtkihgbggndikpaaGreatDoor
