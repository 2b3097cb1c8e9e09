/-
  tree.own: each file of a row of the call's own gets bytes of its own; slices.Clone of a tree.
-/
import Derived.Test.YtedcaodbcognjaaDoorTPut
namespace Go.Proofs.YtedcaodbcognjaaDoor
open Go Go.RowKit Go.Shelf Go.Proofs

/-- In the loop: the first k have bytes of their own. -/
structure OwnInv (base : Nat) (l : List FX) (v : Value) (w : World) (k : Nat) (wr : World) (m : List FX) : Prop where
  own : FilesOwn base wr v m
  len : m.length = l.length
  same : flsX m = flsX l
  rest : m.drop k = l.drop k
  bod : ∀ j x, j < k → m[j]? = some x → BytesOwn wr x.A x.b
  grown : w.grownBy wr v.ownBlock
/-- Their bytes lie below block B, and are there. -/
def BodiesLow (B : Nat) (w : World) (l : List FX) : Prop := ∀ x ∈ l, BytesAt w x.A x.b ∧ LowA B x.A x.b ∧ x.b.length ≤ 1000000
theorem BodiesLow.grown {B : Nat} {w w' : World} {l : List FX} {row : Option Nat} (h : BodiesLow B w l) (hg : w.grownBy w' row) (hr : ∀ g, row = some g → B ≤ g) : BodiesLow B w' l := fun x hx => by
  obtain ⟨h1, h2, h3⟩ := h x hx
  refine ⟨fun hn => ?_, h2, h3⟩
  exact (h1.keep (w' := w') (fun g o e hl => hg.block g hl (fun e2 => by
    have := h2 hn g o none e
    have := hr g e2.symm
    omega))) hn

def OwnPost (base : Nat) (v : Value) (l : List FX) (w : World) (e : Ending) (w' : World) : Prop := ∃ l', e = .returned v ∧ FilesOwn base w' v l' ∧ flsX l' = flsX l ∧ (∀ x ∈ l', BytesOwn w' x.A x.b) ∧ w.grownBy w' v.ownBlock

theorem FilesOwn.storeBody {base : Nat} {W : World} {g n cap : Nat} {l : List FX} (h : FilesOwn base W (.slice (some ⟨g, 0, none⟩) n cap) l) (hn : n = l.length) {i : Nat} {x : FX} (hx : l[i]? = some x) (A' : Option Addr) (c' : Nat) :
    FilesOwn base (W.setCell ⟨g, i * 2 + 1, none⟩ (.slice A' x.b.length c')) (.slice (some ⟨g, 0, none⟩) n cap) (l.set i ⟨x.p, A', c', x.b⟩) := by
  subst hn
  have h2 := (World.ownsRow.stored h (i * 2 + 1) (.slice A' x.b.length c')).1
  unfold FilesOwn
  rw [List.length_set, ← fcells_set]
  have e : (fcells l).set (i * 2) (.string x.p) = fcells l := by
    obtain ⟨hl, he⟩ := List.getElem?_eq_some_iff.1 (fcells_at l i x hx).1
    rw [← he, List.set_getElem_self]
  show World.ownsRow _ _ _ _ _ _ (((fcells l).set (i * 2) (.string x.p)).set (i * 2 + 1) (.slice A' x.b.length c'))
  rw [e]
  exact h2
theorem OwnInv.next {base : Nat} {l : List FX} {g n c : Nat} {w wr w2 : World} {k : Nat} {m : List FX} {x : FX} {A' : Option Addr} {c' : Nat} (h : OwnInv base l (.slice (some ⟨g, 0, none⟩) n c) w k wr m) (hn : n = m.length) (hx : m[k]? = some x) (hb : Below wr.heap.size wr w2) (hbo : BytesOwn w2 A' x.b) (hgl : base ≤ g) :
    OwnInv base l (.slice (some ⟨g, 0, none⟩) n c) w (k + 1) (w2.setCell ⟨g, k * 2 + 1, none⟩ (.slice A' x.b.length c')) (m.set k ⟨x.p, A', c', x.b⟩) := by
  have hkl := (List.getElem?_eq_some_iff.1 hx).1
  have hrow2 := h.own.below hb
  obtain ⟨_, cur, hh⟩ := hrow2.row (g := g) rfl
  have hkeep : ∀ {A : Option Addr} {b : Bs} (u : Value), BytesOwn w2 A b → BytesOwn (w2.setCell ⟨g, k * 2 + 1, none⟩ u) A b := fun u hb' => hb'.keep fun q cur' hq => Below.heap_setCell _ _ _ _ (fun e => by
    have e : q = g := e
    subst e
    rw [hh] at hq; cases hq)
  have h1 := hrow2.storeBody hn hx A' c'
  refine ⟨h1, by rw [List.length_set]; exact h.len, ?_, ?_, fun j y hj hy => ?_, ?_⟩
  · rw [← h.same]
    unfold flsX
    rw [List.map_set]
    have e : (m.map FX.fl)[k]? = some x.fl := by rw [List.getElem?_map, hx]; rfl
    obtain ⟨hl2, he2⟩ := List.getElem?_eq_some_iff.1 e
    show (m.map FX.fl).set k x.fl = _
    rw [← he2, List.set_getElem_self]
  · rw [List.drop_set_of_lt (by omega), ← List.drop_drop, h.rest, List.drop_drop]
  · by_cases e : j = k
    · subst e
      rw [List.getElem?_set_self hkl] at hy
      cases hy
      exact hkeep _ hbo
    · rw [List.getElem?_set_ne (by omega)] at hy
      exact hkeep _ ((h.bod j y (by omega) hy).below hb)
  · refine grown_trans2 (grown_trans2 h.grown (grownN hb _) (.inl rfl)) (?_ : w2.grownBy _ (some g)) (.inl rfl)
    exact ⟨rfl, rfl, rfl, by simp [World.setCell], fun q hq hne => Below.heap_setCell _ _ _ _ (fun e => hne (by rw [e]))⟩

set_option maxRecDepth 100000 in
set_option maxHeartbeats 2000000 in
theorem own_any (base : Nat) (l : List FX) (v : Value) (w : World) (h : FilesOwn base w v l) (hl : l.length ≤ 100000) (hbo : BodiesLow base w l) :
    Calls Tryd.prog 31 #[v] w (OwnPost base v l w) := by
  obtain ⟨A, n, c, rfl⟩ : ∃ A n c, v = .slice A n c := by
    rcases h.form with ⟨rfl, _⟩ | ⟨g, cap, cur, rfl, _⟩
    · exact ⟨_, _, _, rfl⟩
    · exact ⟨_, _, _, rfl⟩
  obtain ⟨hn, hA⟩ : n = l.length ∧ (0 < n → ∃ g, A = some ⟨g, 0, none⟩ ∧ base ≤ g) := by
    rcases h.form with ⟨e1, e2⟩ | ⟨g, cap, cur, e1, e2, _⟩
    · cases e1; rw [e2]; exact ⟨rfl, fun h => absurd h (by simp)⟩
    · cases e1; exact ⟨rfl, fun _ => ⟨g, rfl, e2⟩⟩
  have hl2 : n ≤ 100000 := by omega
  have HBO := Lib.hid hbo; clear hbo
  have HN := Lib.hid hn; clear hn
  have HA := Lib.hid hA; clear hA
  have HF := Lib.hid h; clear h
  go_enter Tryd.func31, Tryd.ntmps31
  go_wp2_with fail
  go_loopw [6] (fun s6 wr => ∃ (k : Nat) (m : List FX), k ≤ n ∧ s6 = .int .i64 k ∧ Hid (OwnInv base l (.slice A n c) w k wr m)) (fun s6 _ => n - (intOf s6).toNat)
  case atStart => exact ⟨0, l, Nat.zero_le _, rfl, HF.out, rfl, rfl, rfl, fun j x hj => absurd hj (Nat.not_lt_zero _), World.grownBy.refl w _⟩
  case round =>
    obtain ⟨k, m, hk, rfl, HI⟩ := hrel
    by_cases hlt : k < n
    · obtain ⟨g, hAg, hbg⟩ := HA.out (by omega)
      subst hAg
      obtain ⟨x, hx⟩ : ∃ x, m[k]? = some x := ⟨_, List.getElem?_eq_getElem (by rw [HI.out.len, ← HN.out]; exact hlt)⟩
      have hlx : l[k]? = some x := by rw [← List.head?_drop, ← HI.out.rest, List.head?_drop, hx]
      obtain ⟨_, c2⟩ := HI.out.own.rowF k x hx
      rw [Nat.zero_add] at c2
      have f2 := HI.out.own.frozen (k * 2 + 1)
      have hgl : g < wr.heap.size := World.block_lt_of_cell? wr (a := ⟨g, k * 2 + 1, none⟩) c2
      obtain ⟨b1, _, b3⟩ := HBO.out.grown HI.out.grown (fun q e => by cases e; exact hbg) x (List.mem_of_getElem? hlx)
      have HC := Lib.hid (bclone_any x.A x.c x.b wr b1 b3)
      have q1 : (k : Int) < (n : Int) := by omega
      have HX := Lib.hid hx; clear hx hlx b1
      go_wp2_with fail
      refine HC.out.mono ?_
      rintro e w2 ⟨A', c', rfl, ho, hb2⟩
      have e2 : w2.cell? ⟨g, k * 2 + 1, none⟩ = some (.slice x.A x.b.length x.c) := (hb2.cell (p := ⟨g, k * 2 + 1, none⟩) hgl).trans c2
      have e3 : w2.frozen? ⟨g, k * 2 + 1, none⟩ = false := (hb2.frozen (p := ⟨g, k * 2 + 1, none⟩) hgl).trans f2
      clear c2 f2
      have HO := Lib.hid ho; clear ho
      have HB2 := Lib.hid hb2; clear hb2
      go_wp2_with fail
      go_roundw
      case rel => exact ⟨k + 1, m.set k ⟨x.p, A', c', x.b⟩, by omega, by go_num, HI.out.next (by rw [HI.out.len]; exact HN.out) HX.out HB2.out HO.out hbg⟩
      case measure => simp [intOf]; omega
    · obtain rfl : k = n := by omega
      go_wp2_with fail
      go_ret
      refine ⟨m, rfl, HI.out.own, HI.out.same, fun x hx => ?_, HI.out.grown⟩
      obtain ⟨j, hj⟩ := List.mem_iff_getElem?.1 hx
      have hjl := (List.getElem?_eq_some_iff.1 hj).1
      exact HI.out.bod j x (by rw [HI.out.len, ← HN.out] at hjl; exact hjl) hj
end Go.Proofs.YtedcaodbcognjaaDoor
