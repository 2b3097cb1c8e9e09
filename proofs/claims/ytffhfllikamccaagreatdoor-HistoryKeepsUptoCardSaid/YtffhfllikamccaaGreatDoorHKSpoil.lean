/-
  What spoiling leaves of a history: blocks of bytes between two bounds, and rows that came out, may turn.
-/
import Derived.Test.YtffhfllikamccaaGreatDoorHKz
import Derived.Test.YtffhfllikamccaaGreatDoorGZ
import Derived.Test.YtffhfllikamccaaGreatDoorTRefz
import Derived.Laws.World
namespace Go.Proofs.YtffhfllikamccaaGreatDoor
open Go Go.RowKit Go.Shelf Go.Proofs Go.ChangeMaps Go.Maps Go.WideMaps

/-- Blocks that P names may hold other cells, as many; all else stays. -/
structure Sp (P : Nat → Prop) (W w' : World) : Prop where
  bel : Below 0 W w'
  keep : ∀ g, g < W.heap.size → ¬ P g → w'.heap[g]? = W.heap[g]?
  row : ∀ (g : Nat) (cur : Array Value) (t : TypeId), P g → W.heap[g]? = some (.cells cur t (0, 0)) → ∃ cur', w'.heap[g]? = some (.cells cur' t (0, 0)) ∧ cur'.size = cur.size
theorem Sp.self (P : Nat → Prop) (W : World) : Sp P W W := ⟨Below.refl _ _, fun _ _ _ => rfl, fun _ cur _ _ h => ⟨cur, h, rfl⟩⟩
theorem Sp.set {P : Nat → Prop} {W w' : World} (h : Sp P W w') {g : Nat} (hp : P g) (i : Nat) (u : Value) : Sp P W (w'.setCell ⟨g, i, none⟩ u) := by
  refine ⟨h.bel.setCell (p := ⟨g, i, none⟩) (Nat.zero_le _) u, fun j hj hn => ?_, fun j cur t hpj hh => ?_⟩
  · exact (heap_setCell_other w' ⟨g, i, none⟩ j u (fun e => by subst e; exact hn hp)).trans (h.keep j hj hn)
  · obtain ⟨cur', h1, h2⟩ := h.row j cur t hpj hh
    by_cases e : j = g
    · subst e
      exact ⟨_, heap_setCell_same w' j i cur' t u h1, by rw [Array.size_setIfInBounds]; exact h2⟩
    · exact ⟨cur', (heap_setCell_other w' ⟨g, i, none⟩ j u e).trans h1, h2⟩
theorem Sp.cell {P : Nat → Prop} {W w' : World} (h : Sp P W w') {g i : Nat} {cur : Array Value} {t : TypeId} {u : Value} (hp : P g) (hh : W.heap[g]? = some (.cells cur t (0, 0))) (hc : W.cell? ⟨g, i, none⟩ = some u) : ∃ u', w'.cell? ⟨g, i, none⟩ = some u' ∧ w'.frozen? ⟨g, i, none⟩ = false := by
  obtain ⟨cur', h1, h2⟩ := h.row g cur t hp hh
  have hi : i < cur.size := by
    have h3 : cur[i]? = some u := by
      unfold World.cell? at hc
      simpa [hh] using hc
    exact (Array.getElem?_eq_some_iff.1 h3).1
  exact ⟨cur'[i], cell_of_row w' g i _ _ _ h1 |>.trans (by rw [Array.getElem?_eq_getElem (by omega)]), frozen_of_row w' g i _ _ h1⟩
theorem Sp.same {P : Nat → Prop} {W w' : World} (h : Sp P W w') {g : Nat} (hn : ¬ P g) {i : Nat} {u : Value} (hc : W.cell? ⟨g, i, none⟩ = some u) : w'.cell? ⟨g, i, none⟩ = some u :=
  (World.cell?_of_block (a := ⟨g, i, none⟩) (h.keep g (World.block_lt_of_cell? W (a := ⟨g, i, none⟩) hc) hn)).trans hc
theorem Sp.below {P : Nat → Prop} {W w' : World} (h : Sp P W w') {n : Nat} (hn : n ≤ W.heap.size) (hp : ∀ g, P g → n ≤ g) : Below n W w' :=
  ⟨h.bel.os, h.bel.tape, h.bel.output, h.bel.size, fun g hg => h.keep g (by omega) fun e => by have := hp g e; omega⟩
theorem HistAt.spoil {base : Nat} {w2 wr wc w' : World} {hb k2 k mb G G0 : Nat} {nm2 nm : List FX} {M2 M : Bs → Nat} {nv2 cv2 nv cv : Value} {mb2 : Nat} {D2 D : DataW Unit} {L l0 : List DX}
    (h2 : HistAt base w2 hb 0 nm2 M2 nv2 cv2 mb2 k2 D2 [(G0, l0)]) (h : HistAt base wc hb 1 nm M nv cv mb k D ((G, L) :: [(G0, l0)]))
    (hbl : Below w2.heap.size w2 wr) (hkr : KeepR wr wc) (hf : FarN wr wc G L.length L)
    (hk : ∀ (g : Nat) (o : Obj), wc.heap[g]? = some o → (g < w2.heap.size ∨ wr.heap.size ≤ g ∨ ∀ cur, o ≠ .cells cur 5 (0, 0)) → w'.heap[g]? = wc.heap[g]?) :
    HistAt base w' hb 1 nm M nv cv mb k D ((G, L) :: [(G0, l0)]) := by
  have key : ∀ (g : Nat) (cur : Array Value) (t : TypeId), t ≠ 5 → wc.heap[g]? = some (.cells cur t (0, 0)) → w'.heap[g]? = wc.heap[g]? := fun g cur t ht hg => hk g _ hg (.inr (.inr fun c e => by cases e; exact ht rfl))
  refine ⟨(key hb _ _ (by decide) h.heap).trans h.heap, ⟨h.names.1, ?_⟩, h.right, h.bare, ⟨h.commits.1, ?_⟩, h.num, ?_, h.sm, h.map.keep ?_, h.room, h.revs.keep (fun g cur hg => key g cur _ (by decide) hg), h.le, h.lb, h.lm⟩
  · exact h.names.2.imp (fun h => h) fun ⟨g, cap, cur, hv, hb, hg, r⟩ => ⟨g, cap, cur, hv, hb, (key g cur _ (by decide) hg).trans hg, r⟩
  · exact h.commits.2.imp (fun h => h) fun ⟨g, cap, cur, hv, hb, hg, r⟩ => ⟨g, cap, cur, hv, hb, (key g cur _ (by decide) hg).trans hg, r⟩
  · obtain ⟨D1, ⟨D0, e0, r0, e1⟩, r1, e2⟩ := h.full
    obtain ⟨D0', e0', r0', _⟩ := h2.full
    refine ⟨D1, ⟨D0, e0, ?_, e1⟩, ?_, e2⟩
    · have e3 : D0' = D0 := (show D0' = .map [] from e0').trans (show D0 = .map [] from e0).symm
      subst e3
      refine r0'.keepB fun g cur t ht hg => ?_
      have hlt := (Array.getElem?_eq_some_iff.1 hg).1
      have s1 := hbl.block g hlt
      have s2 := hkr g cur t (by rcases ht with rfl | rfl <;> decide) (s1.trans hg)
      exact (hk g _ ((s2.trans s1).trans hg) (.inl hlt)).trans (s2.trans s1)
    · obtain ⟨cur, hc, hs⟩ := r1.blk
      refine ⟨⟨cur, (key G cur _ (by decide) hc).trans hc, hs⟩, fun j x hx => ?_⟩
      obtain ⟨A', c', hr, ho⟩ := r1.recs j x hx
      obtain ⟨A2, c2, hc2, hfar⟩ := hf j x (List.getElem?_eq_some_iff.1 hx).1 hx
      have e := hr.body.symm.trans hc2
      injection e with e
      injection e with e _ _
      subst e
      refine ⟨A', c', hr.keep fun _ => key G cur _ (by decide) hc, fun hn => ?_⟩
      obtain ⟨g, cur2, e, hh, hcel⟩ := ho hn
      have hs2 := hk g _ hh (.inr (.inl (hfar _ e)))
      exact ⟨g, cur2, e, hs2.trans hh, fun i hi => (World.cell?_of_block (a := ⟨g, i, none⟩) hs2).trans (hcel i hi)⟩
  · obtain ⟨es, ck, hy⟩ := h.map.block
    exact hk mb _ hy (.inr (.inr fun cur e => by cases e))
theorem smallX_right {nm : List FX} (h : rightT (flsX nm) = true) : SmallX nm ∧ nm.length ≤ 1000 := by
  have h1 := right_len h
  rw [flsX_length] at h1
  refine ⟨⟨by omega, fun x hx => ?_⟩, h1⟩
  have h2 := right_ok h x.fl (List.mem_map_of_mem hx)
  have h3 : x.p.data.toList.length ≤ 100 := by
    have h4 : rightB x.p.data.toList = true := h2.1
    unfold rightB partsB at h4
    simp only [Bool.and_eq_true, decide_eq_true_eq] at h4
    exact h4.1
  have e : x.p.data.toList.length = x.p.size := by rw [Array.length_toList]; rfl
  refine ⟨by omega, ?_⟩
  have h5 : x.b.length ≤ 65536 := h2.2
  omega
theorem HistAt.headK {base : Nat} {w : World} {hb n : Nat} {nm : List FX} {M : Bs → Nat} {nv cv : Value} {mb k : Nat} {D : DataW Unit} {H : List (Nat × List DX)} (h : HistAt base w hb n nm M nv cv mb k D H) :
    Calls Tryz.prog 11 #[.pointer (some ⟨hb, 0, none⟩)] w fun e w' => e = .returned (.int .i64 n) ∧ w' = w := by
  obtain ⟨A, c, rfl, _⟩ := h.commit_slice
  have c1 := cell_of_row w hb 1 _ _ _ h.heap
  exact hhead_any hb A n c w c1
/-- Rows of files stay, and all that was there at first. -/
def KH (n : Nat) (a b : World) : Prop := Below n a b ∧ ∀ (g : Nat) (cur : Array Value), a.heap[g]? = some (Obj.cells cur 65 (0, 0)) → b.heap[g]? = a.heap[g]?
theorem KH.rel (n : Nat) : KRel n (KH n) := ⟨fun _ => ⟨Below.refl _ _, fun _ _ _ => rfl⟩, fun {a b c} hn hb hk => ⟨(hb.mono hn).trans hk.1, fun g cur hg => by
  have s := hb.block g (Array.getElem?_eq_some_iff.1 hg).1
  exact (hk.2 g cur (s.trans hg)).trans s⟩, fun hk g cur hg => hk.2 g cur hg⟩
end Go.Proofs.YtffhfllikamccaaGreatDoor
