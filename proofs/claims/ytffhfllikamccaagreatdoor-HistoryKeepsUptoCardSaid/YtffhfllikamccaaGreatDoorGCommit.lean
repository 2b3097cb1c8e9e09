/-
  The program's Commit of layer 3 (history).
-/
import Derived.Test.YtffhfllikamccaaGreatDoorGNew
import Derived.Test.YtffhfllikamccaaGreatDoorLast
namespace Go.Proofs.YtffhfllikamccaaGreatDoor
open Go Go.RowKit Go.Shelf Go.Proofs Go.ChangeMaps Go.Maps Go.WideMaps

theorem recs_info : (Tryz.prog.info? 75).map (fun i => (i.zero, i.size, i.bytes)) = some (some (.slice none 0 0), 1, 24) := by kernel_rfl
theorem cell_one_h (w : World) (x : Value) (t : TypeId) : ∀ (j : Nat) u, [x][j]? = some u → (w.alloc (.cells #[x] t)).cell? ((⟨w.heap.size, 0, none⟩ : Addr).add j) = some u := by
  intro j u hj
  have hj0 : j = 0 := by
    have := (List.getElem?_eq_some_iff.1 hj).1
    simpa using this
  subst hj0
  obtain rfl : x = u := by simpa using hj
  exact cell_of_row (w.alloc (.cells #[x] t)) w.heap.size 0 _ _ _ (heap_alloc_new w _)
theorem own_blk {w : World} {b e size n g : Nat} {v : Value} {xs : List Value} (h : w.ownsRow b e size v n xs) (hg : v.ownBlock = some g) : b ≤ g ∧ ∃ cur : Array Value, w.heap[g]? = some (Obj.cells cur e (0, 0)) := rowT_ge h hg

theorem own_slice {w : World} {b e size n : Nat} {v : Value} {xs : List Value} (h : w.ownsRow b e size v n xs) : ∃ A c, v = .slice A n c := by
  rcases h.2 with ⟨rfl, h0⟩ | ⟨g, cap, cur, rfl, _⟩
  · exact ⟨none, 0, by rw [h0]⟩
  · exact ⟨_, _, rfl⟩

/-- The changes stay while what is turned of what there is is the history's block alone. -/
def DelsKeep (w : World) (hb : Nat) (B : Option Addr) (d : Nat) (L : List DX) : Prop := ∀ w' : World, w.heap.size ≤ w'.heap.size → (∀ q, q < w.heap.size → q ≠ hb → w'.heap[q]? = w.heap[q]?) → DelsAt w' B d L
theorem DelsKeep.args {w0 w : World} {hb d : Nat} {B : Option Addr} {L : List DX} (h : DelsAt w0 B d L) (hb0 : Below w0.heap.size w0 w) (hl : w0.heap.size ≤ hb) : DelsKeep w hb B d L := fun w' hs hq => by
  have hk : ∀ g, g < w0.heap.size → w'.heap[g]? = w0.heap[g]? := fun g hg => (hq g (Nat.lt_of_lt_of_le hg hb0.size) (by omega)).trans (hb0.block g hg)
  exact h.behind (fun g _ _ hg => hk g hg) (fun x hx => (h.bytes x hx).keep fun g _ _ hg => hk g hg)

def CommitPost (w0 : World) (hb n : Nat) (nm0 : List FX) (M : Bs → Nat) (L : List DX) (w : World) (H : List (Nat × List DX)) (mb0 : Nat) (e : Ending) (w' : World) : Prop :=
  (∃ q : Int, q ≠ 0 ∧ (L = [] ∨ applyT (flsX nm0) (L.map DX.dl) = .error q) ∧ e = .returned (.tuple #[.int .i64 0, .int .i64 q]) ∧ Below w.heap.size w w') ∨
  (∃ nm nv cv mb k D G, L ≠ [] ∧ (∃ f, applyT (flsX nm0) (L.map DX.dl) = .ok f ∧ flsX nm = bareT f) ∧ e = .returned (.tuple #[.int .i64 ((n + 1 : Nat) : Int), .int .i64 0]) ∧ HistAt w0.heap.size w' hb (n + 1) nm (fun s => if s ∈ (L.map fun x => x.p.data.toList) then n + 1 else M s) nv cv mb k D ((G, L) :: H) ∧ Below w0.heap.size w w' ∧ KeepR w w' ∧ KeepM mb w w' ∧ mb = mb0)

set_option maxRecDepth 100000 in
set_option maxHeartbeats 16000000 in
theorem hcommit_any (w0 : World) (hb n : Nat) (nm : List FX) (M : Bs → Nat) (nv cv : Value) (mb k : Nat) (D : DataW Unit) (H : List (Nat × List DX)) (L : List DX) (B : Option Addr) (d : Nat) (w : World) (hH : HistAt w0.heap.size w hb n nm M nv cv mb k D H) (h0 : Below w0.heap.size w0 w) (hn : n < 100000) (hd : DelsKeep w hb B d L) (hs : SmallD L) (hm : MaxOk w0) :
    Calls Tryz.prog 9 #[.pointer (some ⟨hb, 0, none⟩), .slice B L.length d] w (CommitPost w0 hb n nm M L w H mb) := by
  obtain ⟨Ac, cc, rfl, hcc⟩ := hH.commit_slice
  obtain ⟨An, cn, rfl, hT⟩ := hH.tree
  have c0 := cell_of_row w hb 0 _ _ _ hH.heap
  have c1 := cell_of_row w hb 1 _ _ _ hH.heap
  have HH := Lib.hid hH
  have HB0 := Lib.hid h0
  have HD := Lib.hid hd
  have HSD := Lib.hid hs
  have HM := Lib.hid hm
  have HNL := Lib.hid hn
  cases L with
  | nil =>
    clear hH h0 hd hs hm hn hT hcc
    go_enter Tryz.func9, Tryz.ntmps9
    go_wp2_with fail
    go_ret2
    exact .inl ⟨2, by decide, .inl rfl, rfl, Below.refl _ _⟩
  | cons x0 L0 =>
  obtain ⟨L, hL⟩ : ∃ L, x0 :: L0 = L := ⟨_, rfl⟩
  rw [hL] at HD HSD ⊢
  have hne : L ≠ [] := by rw [← hL]; simp
  have hl1 : ((L.length : Int) == 0) = false := by
    rw [beq_eq_false_iff_ne]
    have := List.length_pos_iff.2 hne
    omega
  have HNEL := Lib.hid hne
  have hl0 : ((n : Int) == 100000) = false := by rw [beq_eq_false_iff_ne]; omega
  obtain ⟨hsx, hlx⟩ := hH.small
  have HA := Lib.hid (tapply_any nm L An B cn d w hT hsx (by omega) (HD.out w (Nat.le_refl _) (fun _ _ _ => rfl)) HSD.out (hm.below h0))
  have HHEAD := Lib.hid (hhead_any hb Ac n cc w c1)
  clear hH h0 hd hs hm hT hcc hsx hlx hne hL hn
  go_enter Tryz.func9, Tryz.ntmps9
  go_wp2_with fail
  refine HHEAD.out.mono ?_
  rintro e w9 ⟨rfl, hw9⟩
  have hw9 := hw9.symm
  subst hw9
  go_wp2_with fail
  refine HA.out.mono ?_
  intro e w1 hp
  unfold ApplyPost at hp
  cases hap : applyT (flsX nm) (L.map DX.dl) with
  | error q =>
    rw [hap] at hp
    obtain ⟨rfl, hb1⟩ := hp
    have hq := applyT_err hap
    have hq1 : (q != 0) = true := by simpa using hq
    have HQ := Lib.hid hq
    have HAP := Lib.hid hap
    clear hap hq
    go_wp2_with fail
    go_ret2
    exact .inl ⟨q, HQ.out, .inr HAP.out, rfl, hb1⟩
  | ok f =>
    rw [hap] at hp
    obtain ⟨v', l', rfl, hmade, hfl, hb1⟩ := hp
    have hrt := applyT_ok hap
    rw [← hfl] at hrt
    obtain ⟨A', c', rfl⟩ := hmade.own.slice
    have htree := (hmade.own.tree fun x hx => (hmade.bod x hx).at_).2
    have hlen := right_len hrt
    rw [flsX_length] at hlen
    have HRT := Lib.hid hrt
    have HAP := Lib.hid hap
    have HFL := Lib.hid hfl
    have HB1 := Lib.hid hb1
    have HBARE := Lib.hid (hbare_any l' A' c' w1 htree (by omega))
    clear hap hmade hfl hrt htree hlen hb1
    go_wp2_with fail
    refine HBARE.out.mono ?_
    rintro e w2 ⟨nv1, rfl, hnm, hb2⟩
    obtain ⟨Av, cv', rfl⟩ := hnm.slice
    have hb12 := HB1.out.trans (hb2.mono HB1.out.size)
    have hh2 : w2.heap[hb]? = _ := (hb12.block hb (Array.getElem?_eq_some_iff.1 HH.out.heap).1).trans HH.out.heap
    have HNM := Lib.hid hnm
    have HB12 := Lib.hid hb12
    have HB1S := Lib.hid (show w0.heap.size ≤ w1.heap.size from Nat.le_trans HB0.out.size HB1.out.size)
    have c0 := cell_of_row w2 hb 0 _ _ _ hh2
    have f0 : w2.frozen? ⟨hb, 0, none⟩ = false := by simp [World.frozen?, hh2]
    have HH2 := Lib.hid hh2
    clear hnm hb12 hh2 hb2 c1
    go_wp2_with fail
    obtain ⟨w3, hw3⟩ : ∃ W, w2.setCell ⟨hb, 0, none⟩ (Value.slice Av (bareX l').length cv') = W := ⟨_, rfl⟩
    rw [hw3]
    have hh3 : w3.heap[hb]? = some (.cells #[(Value.slice Av (bareX l').length cv'), .slice Ac n cc, .map (some mb)] 74 (0, 0)) := by
      rw [← hw3, setCell_eq_setRow _ _ _ _ _ _ _ HH2.out]
      exact setRow_heap _ _ _ _ _ _ HH2.out
    have ho3 : ∀ q, q ≠ hb → w3.heap[q]? = w2.heap[q]? := fun q h => by rw [← hw3]; exact Below.heap_setCell _ _ _ _ h
    have hs3 : w3.heap.size = w2.heap.size := by rw [← hw3]; simp [World.setCell]
    have hg3 : w2.grownBy w3 (some hb) := ⟨by rw [← hw3]; rfl, by rw [← hw3]; rfl, by rw [← hw3]; rfl, Nat.le_of_eq hs3.symm, fun q hq hn => ho3 q (fun e => hn (by rw [e]))⟩
    have hne : hb ≠ mb := fun e => by
      obtain ⟨es, ck, hx⟩ := HH.out.map.block
      rw [← e, HH.out.heap] at hx; cases hx
    have hmb : mb < w.heap.size := by
      obtain ⟨es, ck, hx⟩ := HH.out.map.block
      exact (Array.getElem?_eq_some_iff.1 hx).1
    have hbl : hb < w.heap.size := (Array.getElem?_eq_some_iff.1 HH.out.heap).1
    have hmap3 : MapAt w3 mb k D := (HH.out.map.below HB12.out).keep (ho3 mb (Ne.symm hne))
    have hb03 : Below w0.heap.size w w3 := (HB12.out.mono HB0.out.size).trans ⟨hg3.os, hg3.tape, hg3.output, hg3.size, fun q hq => ho3 q (by have := HH.out.lb; omega)⟩
    have hrows := HH.out.commits
    obtain ⟨rows, hrv⟩ : ∃ rows, rowsV H = rows := ⟨_, rfl⟩
    rw [hrv] at hrows
    have HRV := Lib.hid hrv; clear hrv
    have hrow_ne : ∀ g, (Value.slice Ac n cc).ownBlock = some g → g ≠ hb ∧ g ≠ mb := fun g e => by
      obtain ⟨_, cur, hx⟩ := own_blk hrows e
      refine ⟨fun e2 => ?_, fun e2 => ?_⟩
      · subst e2; rw [HH.out.heap] at hx; cases hx
      · subst e2
        obtain ⟨es, ck, hy⟩ := HH.out.map.block
        rw [hy] at hx; cases hx
    have hrows3 : w3.ownsRow w0.heap.size 75 1 (.slice Ac n cc) n rows := by
      have h1 : w2.ownsRow w0.heap.size 75 1 (.slice Ac n cc) n rows := hrows.kept (row := none) ⟨HB12.out.os, HB12.out.tape, HB12.out.output, HB12.out.size, fun k hk _ => HB12.out.block k hk⟩ (by cases (Value.slice Ac n cc).ownBlock <;> simp)
      refine h1.kept hg3 ?_
      cases e : (Value.slice Ac n cc).ownBlock with
      | none => exact .inl rfl
      | some g => exact .inr (fun e2 => (hrow_ne g e).1 (by simpa using e2))
    have hown : ∀ w4 : World, w3.drew.grownBy w4 (some mb) → w4.ownsRow w0.heap.size 75 1 (.slice Ac n cc) n rows := fun w4 hg => by
      refine World.ownsRow.kept (w := w3.drew) hrows3 hg ?_
      cases e : (Value.slice Ac n cc).ownBlock with
      | none => exact .inl rfl
      | some g => exact .inr (fun e2 => (hrow_ne g e).2 (by simpa using e2))
    have hnote : Calls Tryz.prog 29 #[.pointer (some ⟨hb, 0, none⟩), .int .i64 ((n + 1 : Nat) : Int), .slice B L.length d] w3.drew fun e w' => e = .returned (.slice (some ⟨w3.heap.size, 0, none⟩) L.length L.length) ∧ NInv w3.drew hb mb w3.heap.size k D L ((n + 1 : Nat) : Int) L.length w' :=
      hnote_any hb mb k (n + 1) D L B d w3.drew (cell_of_row w3 hb 2 _ _ _ hh3) hmap3 (HD.out w3.drew hb03.size (fun q h1 h2 => (ho3 q h2).trans (HB12.out.block q h1))) HSD.out (by have h1 := HH.out.room; have h2 := HSD.out.1; have h3 := HNL.out; unfold maxLen; omega)
    have hHeld : w3.drew.cell? ⟨hb, 1, none⟩ = some (.slice Ac n cc) := cell_of_row w3 hb 1 _ _ _ hh3
    have HNOTE := Lib.hid hnote
    have HMAP3 := Lib.hid hmap3
    have HOWN := Lib.hid hown
    have HNE := Lib.hid hne
    have HRN := Lib.hid hrow_ne
    have HH3 := Lib.hid hh3
    have HG3 := Lib.hid hg3
    have HB03 := Lib.hid hb03
    have HMB3 := Lib.hid (show mb < w3.heap.size by have := HB12.out.size; omega)
    have HLT3 : Hid (hb < w3.drew.heap.size) := (show hb < w3.heap.size by have := HB12.out.size; omega)
    have HBS := Lib.hid (show w0.heap.size ≤ w3.heap.size by have := HB12.out.size; have := HB0.out.size; omega)
    have HS3 := Lib.hid hs3
    have HN1 := Lib.hid (show IntKind.i64.wrap ((n : Int) + 1) = ((n + 1 : Nat) : Int) by rw [IntWalk.i64_in _ (by have := HNL.out; omega)]; omega)
    clear hw3 hh3 ho3 hs3 hg3 hne hmb hbl hmap3 hb03 hrows hrow_ne hrows3 hown hnote c0 f0
    refine wp_region_last (fun w' => w'.cell? ⟨hb, 1, none⟩ = some (.slice Ac n cc)) 15 (by kernel_rfl) ?_
    refine wpAnyL_take (i := 0) (v := ?vc0) rfl (by kernel_rfl) (by kernel_rfl) (by kernel_rfl) (by kernel_rfl) (by kernel_rfl) (fun _ _ _ h => h) hHeld (Or.inl ⟨by rfl, ?yc0⟩) ?rc0
    case yc0 =>
      intro w hSw
      (try dsimp only at hSw)
      go_simp
      first | done | with_reducible rfl
    try simp only [Act.put, List.getElem_toArray, List.getElem_cons_zero, List.setIfInBounds_toArray, List.set_cons_zero, List.set_cons_succ]
    refine wpAnyL_take (i := 1) (v := ?vc1) rfl (by kernel_rfl) (by kernel_rfl) (by kernel_rfl) (by kernel_rfl) (by kernel_rfl) (fun _ _ _ h => h) hHeld (Or.inl ⟨by rfl, ?yc1⟩) ?rc1
    case yc1 =>
      intro w hSw
      (try dsimp only at hSw)
      go_simp
      first | done | with_reducible rfl
    try simp only [Act.put, List.getElem_toArray, List.getElem_cons_zero, List.getElem_cons_succ, List.setIfInBounds_toArray, List.set_cons_zero, List.set_cons_succ]
    refine wpAnyL_take (i := 2) (v := ?vc2) rfl (by kernel_rfl) (by kernel_rfl) (by kernel_rfl) (by kernel_rfl) (by kernel_rfl) (fun _ _ _ h => h) hHeld (Or.inl ⟨by rfl, ?yc2⟩) ?rc2
    case yc2 =>
      intro w hSw
      (try dsimp only at hSw)
      go_simp
      first | done | with_reducible rfl
    try simp only [Act.put, List.getElem_toArray, List.getElem_cons_zero, List.getElem_cons_succ, List.setIfInBounds_toArray, List.set_cons_zero, List.set_cons_succ]
    refine wpAnyL_take (i := 3) (v := ?vc3) rfl (by kernel_rfl) (by kernel_rfl) (by kernel_rfl) (by kernel_rfl) (by kernel_rfl) (fun _ _ _ h => h) hHeld (Or.inl ⟨by rfl, ?yc3⟩) ?rc3
    case yc3 =>
      intro w hSw
      (try dsimp only at hSw)
      go_simp
      first | done | with_reducible rfl
    try simp only [Act.put, List.getElem_toArray, List.getElem_cons_zero, List.getElem_cons_succ, List.setIfInBounds_toArray, List.set_cons_zero, List.set_cons_succ]
    refine wpAnyL_take (i := 4) (v := ?vc4) rfl (by kernel_rfl) (by kernel_rfl) (by kernel_rfl) (by kernel_rfl) (by kernel_rfl) (fun _ _ _ h => h) hHeld (Or.inl ⟨by rfl, ?yc4⟩) ?rc4
    case yc4 =>
      intro w hSw
      (try dsimp only at hSw)
      go_simp
      first | done | with_reducible rfl
    try simp only [Act.put, List.getElem_toArray, List.getElem_cons_zero, List.getElem_cons_succ, List.setIfInBounds_toArray, List.set_cons_zero, List.set_cons_succ]
    refine wpAnyL_take (i := 5) (v := ?vc5) rfl (by kernel_rfl) (by kernel_rfl) (by kernel_rfl) (by kernel_rfl) (by kernel_rfl) (fun _ _ _ h => h) hHeld (Or.inl ⟨by rfl, ?yc5⟩) ?rc5
    case yc5 =>
      intro w hSw
      (try dsimp only at hSw)
      go_simp
      first | done | with_reducible rfl
    try simp only [Act.put, List.getElem_toArray, List.getElem_cons_zero, List.getElem_cons_succ, List.setIfInBounds_toArray, List.set_cons_zero, List.set_cons_succ]
    refine wpAnyL_take (i := 6) (v := ?vc6) rfl (by kernel_rfl) (by kernel_rfl) (by kernel_rfl) (by kernel_rfl) (by kernel_rfl) (fun _ _ _ h => h) hHeld (Or.inl ⟨by rfl, ?yc6⟩) ?rc6
    case yc6 =>
      intro w hSw
      (try dsimp only at hSw)
      go_simp
      first | done | with_reducible rfl
    try simp only [Act.put, List.getElem_toArray, List.getElem_cons_zero, List.getElem_cons_succ, List.setIfInBounds_toArray, List.set_cons_zero, List.set_cons_succ]
    refine wpAnyL_take (i := 9) (v := ?vc9) rfl (by kernel_rfl) (by kernel_rfl) (by kernel_rfl) (by kernel_rfl) (by kernel_rfl) (fun _ _ _ h => h) hHeld (Or.inl ⟨by rfl, ?yc9⟩) ?rc9
    case yc9 =>
      intro w hSw
      (try dsimp only at hSw)
      go_simp
      first | done | with_reducible rfl
    try simp only [Act.put, List.getElem_toArray, List.getElem_cons_zero, List.getElem_cons_succ, List.setIfInBounds_toArray, List.set_cons_zero, List.set_cons_succ]
    refine wpAnyL_one (i := 7) (by kernel_rfl) rfl rfl (fun K hK => ?_)
    go_simp
    refine (hhead_any hb Ac n cc w3.drew hHeld).mono ?_
    rintro e w9 ⟨rfl, rfl⟩
    go_wp2_with fail
    refine hK.out _ _ (fun _ => hHeld) ?_
    clear hK K
    try simp only [Act.put, List.getElem_toArray, List.getElem_cons_zero, List.getElem_cons_succ, List.setIfInBounds_toArray, List.set_cons_zero, List.set_cons_succ]
    refine wpAnyL_take (i := 8) (v := ?vc8) rfl (by kernel_rfl) (by kernel_rfl) (by kernel_rfl) (by kernel_rfl) (by kernel_rfl) (fun _ _ _ h => h) hHeld (Or.inl ⟨by rfl, ?yc8⟩) ?rc8
    case yc8 =>
      intro w hSw
      (try dsimp only at hSw)
      go_simp
      first | done | with_reducible rfl
    try simp only [Act.put, List.getElem_toArray, List.getElem_cons_zero, List.getElem_cons_succ, List.setIfInBounds_toArray, List.set_cons_zero, List.set_cons_succ]
    refine wpAnyL_one (i := 10) (by kernel_rfl) rfl rfl (fun K hK => ?_)
    go_simp
    rw [HN1.out]
    refine HNOTE.out.mono ?_
    rintro e w4 ⟨rfl, hN⟩
    have hh4 : w4.heap[hb]? = some (.cells #[(Value.slice Av (bareX l').length cv'), .slice Ac n cc, .map (some mb)] 74 (0, 0)) := (hN.grown.block hb HLT3.out (fun e => HNE.out (by simpa using e))).trans HH3.out
    have hHeld : w4.cell? ⟨hb, 1, none⟩ = some (.slice Ac n cc) := cell_of_row w4 hb 1 _ _ _ hh4
    have HN := Lib.hid hN
    have HH4 := Lib.hid hh4
    clear hN hh4
    go_wp2_with fail
    refine hK.out _ _ (fun _ => hHeld) ?_
    clear hK K
    try simp only [Act.put, List.getElem_toArray, List.getElem_cons_zero, List.getElem_cons_succ, List.setIfInBounds_toArray, List.set_cons_zero, List.set_cons_succ]
    refine wpAnyL_one (i := 11) (by kernel_rfl) rfl rfl (fun K hK => ?_)
    go_simp
    have hHeld : (w4.alloc (.cells #[.slice (some ⟨w3.heap.size, 0, none⟩) L.length L.length] 75)).cell? ⟨hb, 1, none⟩ = some (.slice Ac n cc) := ((below_box w4 _).cell (World.block_lt_of_cell? _ (a := ⟨hb, 1, none⟩) hHeld)).trans hHeld
    refine hK.out _ _ (fun _ => hHeld) ?_
    clear hK K
    try simp only [Act.put, List.getElem_toArray, List.getElem_cons_zero, List.getElem_cons_succ, List.setIfInBounds_toArray, List.set_cons_zero, List.set_cons_succ]
    refine wpAnyL_one (i := 12) (by kernel_rfl) rfl rfl (fun K hK => ?_)
    have hown := HOWN.out w4 HN.out.grown
    obtain ⟨i0, hi, hz0, hz1, hz2⟩ := info_parts recs_info
    refine wp_append_own _ (.tmp 40) (.tmp 47) 71 rfl w0.heap.size 75 i0 (.slice none 0 0) 1 24 Tryz.underlying71 hi hz0 hz1 hz2 rfl (by decide) (.slice Ac n cc) n rows rfl (hown.alloc _) ⟨w4.heap.size, 0, none⟩ 1 1 [.slice (some ⟨w3.heap.size, 0, none⟩) L.length L.length] rfl rfl (cell_one_h _ _ _) (by simp [Value.oneCell']) (by have := HNL.out; unfold maxLen; omega) (by have := HNL.out; omega) (by have h : w3.heap.size ≤ w4.heap.size := HN.out.grown.size; have := HBS.out; simp; omega) ?_
    intro v6 w6 hown6 hgrow hnil
    obtain ⟨A6, c6, rfl⟩ := own_slice hown6
    have hrow6 : ∀ g, (Value.slice Ac n cc).ownBlock = some g → g ≠ hb := fun g e1 e2 => by
        subst e2
        obtain ⟨_, cur, hh⟩ := own_blk hown e1
        rw [HH4.out] at hh; cases hh
    have hh6 : w6.heap[hb]? = some (.cells #[(Value.slice Av (bareX l').length cv'), .slice Ac n cc, .map (some mb)] 74 (0, 0)) := (hgrow.block hb (by have := (Array.getElem?_eq_some_iff.1 HH4.out).1; simp; omega) (fun e => hrow6 hb e.symm rfl)).trans ((Below.heap_alloc _ _ _ (Array.getElem?_eq_some_iff.1 HH4.out).1).trans HH4.out)
    have hHeld : w6.cell? ⟨hb, 1, none⟩ = some (.slice Ac n cc) := cell_of_row w6 hb 1 _ _ _ hh6
    have HO4 := Lib.hid hown
    have HO6 := Lib.hid hown6
    have HG6 := Lib.hid hgrow
    have HH6 := Lib.hid hh6
    have HR6 := Lib.hid hrow6
    clear hown hown6 hgrow hnil hh6 hrow6 hi hz0 hz1 hz2
    refine hK.out _ _ (fun _ => hHeld) ?_
    clear hK K
    try simp only [Act.put, List.getElem_toArray, List.getElem_cons_zero, List.getElem_cons_succ, List.setIfInBounds_toArray, List.set_cons_zero, List.set_cons_succ]
    refine wpAnyL_one (i := 13) (by kernel_rfl) rfl rfl (fun K hK => ?_)
    go_simp
    refine hK.out _ _ (fun _ => hHeld) ?_
    clear hK K
    try simp only [Act.put, List.getElem_toArray, List.getElem_cons_zero, List.getElem_cons_succ, List.setIfInBounds_toArray, List.set_cons_zero, List.set_cons_succ]
    refine wpAnyL_take (i := 14) (v := ?vc14) rfl (by kernel_rfl) (by kernel_rfl) (by kernel_rfl) (by kernel_rfl) (by kernel_rfl) (fun _ _ _ h => h) hHeld (Or.inl ⟨by rfl, ?yc14⟩) ?rc14
    case yc14 =>
      intro w hSw
      (try dsimp only at hSw)
      go_simp
      first | done | with_reducible rfl
    try simp only [Act.put, List.getElem_toArray, List.getElem_cons_zero, List.getElem_cons_succ, List.setIfInBounds_toArray, List.set_cons_zero, List.set_cons_succ]
    refine wpAnyL_one (i := 15) (by kernel_rfl) rfl rfl (fun K hK => ?_)
    have f6 : w6.frozen? ⟨hb, 1, none⟩ = false := by simp [World.frozen?, HH6.out]
    have cs6 := hHeld
    go_simp
    clear f6 cs6
    refine hK.out _ _ (fun h => absurd rfl h) ?_
    clear hK K
    try simp only [Act.put, List.getElem_toArray, List.getElem_cons_zero, List.getElem_cons_succ, List.setIfInBounds_toArray, List.set_cons_zero, List.set_cons_succ]
    refine wpAnyL_done (by kernel_rfl) ?_ _
    clear hHeld
    obtain ⟨w7, hw7⟩ : ∃ W, w6.setCell ⟨hb, 1, none⟩ (.slice A6 (n + 1) c6) = W := ⟨_, rfl⟩
    rw [hw7]
    have hh7 : w7.heap[hb]? = some (.cells #[(Value.slice Av (bareX l').length cv'), .slice A6 (n + 1) c6, .map (some mb)] 74 (0, 0)) := by
      rw [← hw7, setCell_eq_setRow _ _ _ _ _ _ _ HH6.out]
      exact setRow_heap _ _ _ _ _ _ HH6.out
    have hg7 : w6.grownBy w7 (some hb) := ⟨by rw [← hw7]; rfl, by rw [← hw7]; rfl, by rw [← hw7]; rfl, by rw [← hw7]; simp [World.setCell], fun q hq hn => by rw [← hw7]; exact Below.heap_setCell _ _ _ _ (fun e => hn (by rw [e]))⟩
    obtain ⟨W5, hW5⟩ : ∃ W, w4.alloc (.cells #[.slice (some ⟨w3.heap.size, 0, none⟩) L.length L.length] 75) = W := ⟨_, rfl⟩
    have hb5 : Below w4.heap.size w4 W5 := by rw [← hW5]; exact below_box _ _
    have hg6 := HG6.out
    have ho5 := HO4.out.alloc (.cells #[.slice (some ⟨w3.heap.size, 0, none⟩) L.length L.length] 75)
    rw [hW5] at hg6 ho5
    have hq7 : ∀ q, q < w4.heap.size → q ≠ hb → (∀ g, (Value.slice Ac n cc).ownBlock = some g → q ≠ g) → w7.heap[q]? = w4.heap[q]? := fun q h1 h2 h3 => by
      have h5 := hb5.size
      have h6 := hg6.size
      rw [hg7.block q (by omega) (fun e => h2 (by simpa using e)), hg6.block q (by omega) (fun e => h3 q e.symm rfl), hb5.block q h1]
    have hmb4 : mb < w4.heap.size := by
      have h : w3.heap.size ≤ w4.heap.size := HN.out.grown.size
      have := HMB3.out
      omega
    have hmap7 := HN.out.map.keep (hq7 mb hmb4 (Ne.symm HNE.out) (fun g e e2 => (HRN.out g e).2 e2.symm))
    have hnames7 : FilesOwn w0.heap.size w7 (Value.slice Av (bareX l').length cv') (bareX l') := by
      have h3 := HNM.out.keepG HG3.out (fun g e cur hx => by
        have e : hb = g := by simpa using e
        subst e
        rw [HH2.out] at hx; cases hx)
      have h4 : FilesOwn w1.heap.size w4 (Value.slice Av (bareX l').length cv') (bareX l') := FilesOwn.keepG (w := w3.drew) h3 HN.out.grown (fun g e cur hx => by
        have e : mb = g := by simpa using e
        subst e
        obtain ⟨es, ck, hy⟩ := (HMAP3.out : MapAt w3 mb k D).block
        have hx : w3.heap[mb]? = _ := hx
        rw [hy] at hx; cases hx)
      have h6 := (h4.below hb5).keepG hg6 (fun g e cur hx => by
        obtain ⟨_, cur2, hy⟩ := own_blk ho5 e
        rw [hy] at hx; cases hx)
      have h7 := h6.keepG hg7 (fun g e cur hx => by
        have e : hb = g := by simpa using e
        subst e
        rw [HH6.out] at hx; cases hx)
      exact h7.base HB1S.out
    have hrevs4 : RevsAt 85 w4 D M := by
      have h2 := HH.out.revs.below HB12.out
      have h3 : RevsAt 85 w3 D M := h2.keep fun g cur hx => HG3.out.block g (Array.getElem?_eq_some_iff.1 hx).1 (fun e => by
        have e : g = hb := by simpa using e
        subst e
        rw [HH2.out] at hx; cases hx)
      exact h3.keep fun g cur hx => HN.out.grown.block g (Array.getElem?_eq_some_iff.1 hx).1 (fun e => by
        have e : g = mb := by simpa using e
        subst e
        obtain ⟨es, ck, hy⟩ := (HMAP3.out : MapAt w3 g k D).block
        rw [hy] at hx; cases hx)
    have hrevs7 : RevsAt 85 w7 (laidS D w3.heap.size (L.map fun x => x.p.data.toList) L.length) (fun s => if s ∈ (L.map fun x => x.p.data.toList) then n + 1 else M s) := by
      refine (HN.out.revs hrevs4 HH.out.map.isMap).keep fun g cur hx => hq7 g (Array.getElem?_eq_some_iff.1 hx).1 (fun e => ?_) (fun g2 e e2 => ?_)
      · subst e
        rw [HH4.out] at hx; cases hx
      · subst e2
        obtain ⟨_, cur2, hy⟩ := own_blk HO4.out e
        rw [hy] at hx; cases hx
    have hkr7 : KeepR w4 w7 := fun g cur t ht _ hx => hq7 g (Array.getElem?_eq_some_iff.1 hx).1 (fun e => by
        subst e
        rw [HH4.out] at hx; cases hx; revert ht; decide) (fun g2 e e2 => by
        subst e2
        obtain ⟨_, cur2, hy⟩ := own_blk HO4.out e
        rw [hy] at hx; cases hx; revert ht; decide)
    have hkr4 : KeepR w w4 := by
      refine (KeepR.below HB12.out).trans (KeepR.trans (KeepR.grown HG3.out (fun g cur t e ht _ hx => ?_)) (KeepR.grown (w := w3.drew) HN.out.grown (fun g cur t e ht _ hx => ?_)))
      · have e : hb = g := by simpa using e
        subst e
        rw [HH2.out] at hx; cases hx; revert ht; decide
      · have e : mb = g := by simpa using e
        subst e
        obtain ⟨es, ck, hy⟩ := (HMAP3.out : MapAt w3 mb k D).block
        have hx : w3.heap[mb]? = _ := hx
        rw [hy] at hx; cases hx
    have hkm7 : KeepM mb w4 w7 := fun g es ck _ hx => hq7 g (Array.getElem?_eq_some_iff.1 hx).1 (fun e => by
        subst e
        rw [HH4.out] at hx; cases hx) (fun g2 e e2 => by
        subst e2
        obtain ⟨_, cur2, hy⟩ := own_blk HO4.out e
        rw [hy] at hx; cases hx)
    have hkm4 : KeepM mb w w4 := (KeepM.below HB12.out).trans (KeepM.trans (KeepM.grown HG3.out (fun g e => by
        have e : hb = g := by simpa using e
        subst e
        exact .inr ⟨_, _, _, HH2.out⟩)) (KeepM.grown (w := w3.drew) HN.out.grown (fun g e => .inl (by simpa using e.symm))))
    have hfull7 : RevsF w7 ((w3.heap.size, L) :: H) (laidS D w3.heap.size (L.map fun x => x.p.data.toList) L.length) :=
      ⟨D, HH.out.full.keep (hkr4.trans hkr7), by rw [HH.out.num]; exact HN.out.rev.keep hkr7, rfl⟩
    have hnum7 : ((w3.heap.size, L) :: H).length = n + 1 + 1 := by rw [List.length_cons, HH.out.num]
    have hown7 := HO6.out.kept hg7 (by
      cases e : (Value.slice A6 (n + 1) c6).ownBlock with
      | none => exact .inl rfl
      | some g =>
        refine .inr fun e2 => ?_
        have e2 : g = hb := by simpa using e2
        subst e2
        obtain ⟨_, cur2, hy⟩ := own_blk HO6.out e
        rw [HH6.out] at hy; cases hy)
    have hcom7 : w7.ownsRow w0.heap.size 75 1 (.slice A6 (n + 1) c6) (n + 1) (rowsV ((w3.heap.size, L) :: H)) := by
      have e : rowsV ((w3.heap.size, L) :: H) = rows ++ [.slice (some ⟨w3.heap.size, 0, none⟩) L.length L.length] := by
        rw [← HRV.out]
        have hne : H ≠ [] := fun e => by have := HH.out.num; rw [e] at this; simp at this
        unfold rowsV
        rw [List.dropLast_cons_of_ne_nil hne]
        simp
      rw [e]; exact hown7
    have hbz : Below w0.heap.size w w7 := by
      have hl := HH.out.lb
      have hlm := HH.out.lm
      have hbs := HBS.out
      have h34 : w3.heap.size ≤ w4.heap.size := HN.out.grown.size
      refine HB03.out.trans ⟨?_, ?_, ?_, ?_, fun q hq => ?_⟩
      · exact hg7.os.trans (hg6.os.trans (hb5.os.trans HN.out.grown.os))
      · exact hg7.tape.trans (hg6.tape.trans (hb5.tape.trans HN.out.grown.tape))
      · exact hg7.output.trans (hg6.output.trans (hb5.output.trans HN.out.grown.output))
      · have := hb5.size; have := hg6.size; have := hg7.size; omega
      · have h1 : w4.heap[q]? = w3.heap[q]? := HN.out.grown.block q (show q < w3.heap.size by omega) (fun e => by
          have e : q = mb := by simpa using e
          omega)
        rw [hq7 q (by omega) (by omega) (fun g e e2 => by have := (own_blk HO4.out e).1; omega), h1]
    have hle7 : ∀ s : Bs, (if s ∈ (L.map fun x => x.p.data.toList) then n + 1 else M s) ≤ n + 1 := fun s => by
      have h1 : M s ≤ n := HH.out.le s
      split
      · exact Nat.le_refl _
      · omega
    have hroom7 : k + L.length ≤ 10000 * (n + 1 + 1) := by
      have h1 : k ≤ 10000 * (n + 1) := HH.out.room
      have h2 : L.length ≤ 10000 := HSD.out.1
      omega
    have HFIN := Lib.hid (⟨hh7, hnames7.base (Nat.zero_le _), by rw [bareX_fls]; exact bareT_right HRT.out, bareX_bare, hcom7, hnum7, hfull7, (fun y hy => by
      rcases List.mem_cons.1 hy with rfl | hy
      · exact HSD.out
      · exact HH.out.sm y hy), hmap7, hroom7, hrevs7, hle7, HH.out.lb, HH.out.lm⟩ : HistAt w0.heap.size w7 hb (n + 1) (bareX l') (fun s => if s ∈ (L.map fun x => x.p.data.toList) then n + 1 else M s) (Value.slice Av (bareX l').length cv') (.slice A6 (n + 1) c6) mb (k + L.length) _ ((w3.heap.size, L) :: H))
    have HBZ := Lib.hid hbz
    have HKR := Lib.hid (hkr4.trans hkr7)
    have HKM := Lib.hid (hkm4.trans hkm7)
    have c7 := cell_of_row w7 hb 1 _ _ _ hh7
    have HHEAD7 := Lib.hid (hhead_any hb A6 (n + 1) c6 w7 c7)
    clear hw7 hh7 hg7 hW5 hb5 hg6 ho5 hq7 hmb4 hmap7 hnames7 hrevs4 hrevs7 hown7 hbz c7
    go_wp2_with fail
    refine HHEAD7.out.mono ?_
    rintro e w9 ⟨rfl, hw9⟩
    have hw9 := hw9.symm
    subst hw9
    go_wp2_with fail
    go_ret2
    exact .inr ⟨_, _, _, _, _, _, _, HNEL.out, ⟨f, HAP.out, by rw [bareX_fls, HFL.out]⟩, rfl, HFIN.out, HBZ.out, HKR.out, HKM.out, rfl⟩
end Go.Proofs.YtffhfllikamccaaGreatDoor
