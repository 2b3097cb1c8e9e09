/-
  tree.Apply.
-/
import Derived.Test.YtffhfllikamccaaGreatDoorTChanged
namespace Go.Proofs.YtffhfllikamccaaGreatDoor
open Go Go.RowKit Go.Shelf Go.Proofs

/-- The slice value .slice A n c holds the changes l. -/
structure DelsAt (w : World) (A : Option Addr) (c : Nat) (l : List DX) : Prop where
  cap : l.length ≤ c
  capm : c ≤ maxLen
  row : 0 < l.length → ∃ g o, A = some ⟨g, o, none⟩ ∧ ∀ i x, l[i]? = some x → w.cell? ⟨g, o + i * 3, none⟩ = some (.int .i64 x.k) ∧ w.cell? ⟨g, o + i * 3 + 1, none⟩ = some (.string x.p) ∧ w.cell? ⟨g, o + i * 3 + 2, none⟩ = some (.slice x.A x.b.length x.c)
  bytes : ∀ x ∈ l, BytesAt w x.A x.b
def SmallD (l : List DX) : Prop := l.length ≤ 10000 ∧ ∀ x ∈ l, x.p.size ≤ 1000000 ∧ x.b.length ≤ 1000000
theorem DelsAt.below {w w' : World} {A : Option Addr} {c : Nat} {l : List DX} (h : DelsAt w A c l) (hb : Below w.heap.size w w') : DelsAt w' A c l := by
  refine ⟨h.cap, h.capm, fun hn => ?_, fun x hx => (h.bytes x hx).below hb⟩
  obtain ⟨g, o, e, hr⟩ := h.row hn
  refine ⟨g, o, e, fun i x hx => ?_⟩
  obtain ⟨h1, h2, h3⟩ := hr i x hx
  have hl : g < w.heap.size := World.block_lt_of_cell? w (a := ⟨g, o + i * 3, none⟩) h1
  exact ⟨(hb.cell (p := ⟨g, o + i * 3, none⟩) hl).trans h1, (hb.cell (p := ⟨g, o + i * 3 + 1, none⟩) hl).trans h2, (hb.cell (p := ⟨g, o + i * 3 + 2, none⟩) hl).trans h3⟩
theorem stepsT_step {t : List Fl} {D : List Dl} {k : Nat} {d : Dl} (hd : D[k]? = some d) : stepsT t (D.drop k) = match stepT t d with
    | .error e => .error e
    | .ok u => stepsT u (D.drop (k + 1)) := by
  obtain ⟨hk, rfl⟩ := List.getElem?_eq_some_iff.1 hd
  rw [List.drop_eq_getElem_cons hk]; rfl

/-- Behind the first k changes: the list m, in a row of the call's own. -/
structure AppInv (w : World) (l : List FX) (D : List DX) (v : Value) (wr : World) (k : Nat) (m : List FX) : Prop where
  own : FilesOwn w.heap.size wr v m
  len : m.length ≤ l.length + k
  bod : BodiesLow w.heap.size w m
  pat : ∀ x ∈ m, x.p.size ≤ 1000000
  bel : Below w.heap.size w wr
  steps : stepsT (flsX l) (D.map DX.dl) = stepsT (flsX m) ((D.map DX.dl).drop k)

theorem AppInv.tree {w wr : World} {l m : List FX} {D : List DX} {A : Option Addr} {n c k : Nat} (h : AppInv w l D (.slice A n c) wr k m) : TreeAt wr A c m :=
  (h.own.tree fun x hx => ((h.bod.below h.bel) x hx).1).2
theorem AppInv.next {w wr w2 w3 : World} {l m : List FX} {D : List DX} {v v' : Value} {k : Nat} {x : DX} (h : AppInv w l D v wr k m) (hx : D[k]? = some x) (h0 : refT (flsX m) x.dl = 0) (hb : BytesAt w x.A x.b) (hs : x.p.size ≤ 1000000 ∧ x.b.length ≤ 1000000)
    (hb2 : Below wr.heap.size wr w2) (ho : FilesOwn w.heap.size w3 v' (chX m x)) (hg : w2.grownBy w3 v.ownBlock) : AppInv w l D v' w3 (k + 1) (chX m x) := by
  have hbel : Below w.heap.size w w2 := h.bel.trans (hb2.mono h.bel.size)
  refine ⟨ho, ?_, fun y hy => ?_, fun y hy => ?_, hbel.grown hg hbel.size fun g e => (h.own.row e).1, ?_⟩
  · have := chX_le m x; have := h.len; omega
  · rcases chX_sub y hy with rfl | hy
    · exact ⟨hb, hb.low, hs.2⟩
    · exact h.bod y hy
  · rcases chX_sub y hy with rfl | hy
    · exact hs.1
    · exact h.pat y hy
  · rw [h.steps, stepsT_step (d := x.dl) (by rw [List.getElem?_map, hx]; rfl), stepT_ref, if_pos h0, chX_fls]
theorem AppInv.fail {w wr : World} {l m : List FX} {D : List DX} {v : Value} {k : Nat} {x : DX} (h : AppInv w l D v wr k m) (hx : D[k]? = some x) (h0 : refT (flsX m) x.dl ≠ 0) : applyT (flsX l) (D.map DX.dl) = .error (refT (flsX m) x.dl) := by
  unfold applyT
  rw [h.steps, stepsT_step (d := x.dl) (by rw [List.getElem?_map, hx]; rfl), stepT_ref, if_neg h0]
theorem AppInv.done {w wr : World} {l m : List FX} {D : List DX} {v : Value} (h : AppInv w l D v wr D.length m) : applyT (flsX l) (D.map DX.dl) = if longT (flsX m) then .error 3 else if rightT (flsX m) then .ok (flsX m) else .error 4 := by
  unfold applyT
  rw [h.steps, List.drop_of_length_le (by rw [List.length_map]; exact Nat.le_refl _)]; rfl

def ApplyPost (w : World) (r : Except Int (List Fl)) (e : Ending) (w' : World) : Prop := match r with
  | .error k => e = .returned (.tuple #[.slice none 0 0, .int .i64 k]) ∧ Below w.heap.size w w'
  | .ok f => ∃ v' l', e = .returned (.tuple #[v', .int .i64 0]) ∧ TreeMade w.heap.size w' v' l' ∧ flsX l' = f ∧ Below w.heap.size w w'

set_option maxRecDepth 100000 in
set_option maxHeartbeats 4000000 in
theorem tapply_any (l : List FX) (D : List DX) (A B : Option Addr) (c d : Nat) (w : World) (h : TreeAt w A c l) (hs : SmallX l) (hl : l.length ≤ 80000) (hd : DelsAt w B d D) (hsd : SmallD D) (hm : MaxOk w) :
    Calls Tryz.prog 32 #[.slice A l.length c, .slice B D.length d] w (ApplyPost w (applyT (flsX l) (D.map DX.dl))) := by
  have HC := Lib.hid (clone_any l A c w h hs.1)
  have HBO := Lib.hid (h.bodies hs)
  have HS := Lib.hid hs; clear hs
  have HD := Lib.hid hd; clear hd
  have HSD := Lib.hid hsd; clear hsd
  have HM := Lib.hid hm; clear hm h
  have hdl := HSD.out.1
  go_enter Tryz.func32, Tryz.ntmps32
  go_wp2_with fail
  refine HC.out.mono ?_
  rintro e w1 ⟨v1, rfl, h1, hb1⟩
  obtain ⟨A1, c1, rfl⟩ := h1.slice
  have H1 := Lib.hid h1; clear h1
  have HB1 := Lib.hid hb1; clear hb1
  go_wp2_with fail
  go_loopw [0, 13] (fun v i wr => ∃ (k : Nat) (m : List FX), k ≤ D.length ∧ i = .int .i64 k ∧ Hid (AppInv w l D v wr k m)) (fun _ i _ => D.length - (intOf i).toNat)
  case atStart => exact ⟨0, l, Nat.zero_le _, rfl, H1.out, Nat.le_refl _, HBO.out, fun x hx => (HS.out.2 x hx).1, HB1.out, rfl⟩
  case round =>
    obtain ⟨k, m, hk, rfl, HI⟩ := hrel
    obtain ⟨Am, cm, rfl⟩ := HI.out.own.slice
    have hml : m.length ≤ 90000 := by have := HI.out.len; omega
    by_cases h1 : k < D.length
    · obtain ⟨x, hx⟩ : ∃ x, D[k]? = some x := ⟨_, List.getElem?_eq_getElem h1⟩
      obtain ⟨b, o, hB, hr⟩ := HD.out.row (by omega)
      subst hB
      obtain ⟨c1, c2, c3⟩ := hr k x hx
      have hbl : b < w.heap.size := World.block_lt_of_cell? w (a := ⟨b, o + k * 3, none⟩) c1
      have c1 := (HI.out.bel.cell (p := ⟨b, o + k * 3, none⟩) hbl).trans c1
      have c2 := (HI.out.bel.cell (p := ⟨b, o + k * 3 + 1, none⟩) hbl).trans c2
      have c3 := (HI.out.bel.cell (p := ⟨b, o + k * 3 + 2, none⟩) hbl).trans c3
      have k1 : (k : Int) < (D.length : Int) := by omega
      clear hr hbl
      have HX := Lib.hid hx; clear hx
      have hW : Below wr.heap.size wr (wr.alloc (.cells #[.int .i64 x.k, .string x.p, .slice x.A x.b.length x.c] 62)) := (Below.refl _ _).alloc (Nat.le_refl _) _
      have hbx := heap_alloc_new wr (.cells #[.int .i64 x.k, .string x.p, .slice x.A x.b.length x.c] 62)
      have HR := Lib.hid (refusal_any m Am cm x _ (HI.out.tree.below hW) (HSD.out.2 x (List.mem_of_getElem? HX.out)).1 ((HM.out.below HI.out.bel).below hW))
      have HBX := Lib.hid hbx; clear hbx
      have HW := Lib.hid hW; clear hW
      go_wp2_with fail
      refine HR.out.mono ?_
      rintro e w2 ⟨rfl, hb2⟩
      have hlt := (Array.getElem?_eq_some_iff.1 HBX.out).1
      have hh2 := (hb2.block _ hlt).trans HBX.out
      have e1 : w2.cell? ⟨wr.heap.size, 0, none⟩ = some (.int .i64 x.k) := cell_of_row _ _ 0 _ _ _ hh2
      have e2 : w2.cell? ⟨wr.heap.size, 1, none⟩ = some (.string x.p) := cell_of_row _ _ 1 _ _ _ hh2
      have e3 : w2.cell? ⟨wr.heap.size, 2, none⟩ = some (.slice x.A x.b.length x.c) := cell_of_row _ _ 2 _ _ _ hh2
      have hb2 : Below wr.heap.size wr w2 := HW.out.trans (hb2.mono HW.out.size)
      clear hlt hh2 c1 c2 c3
      by_cases h0 : refT (flsX m) x.dl = 0
      · have HCH := Lib.hid (changed_any w.heap.size m (.slice Am m.length cm) x w2 (HI.out.own.below hb2) hml (Nat.le_trans HI.out.bel.size hb2.size))
        have HB2 := Lib.hid hb2; clear hb2
        rw [h0]
        have H0 := Lib.hid h0; clear h0
        go_wp2_with fail
        refine HCH.out.mono ?_
        rintro e w3 ⟨v', rfl, h3, hg3⟩
        obtain ⟨A3, c4, rfl⟩ := h3.slice
        have H3 := Lib.hid h3; clear h3
        have HG3 := Lib.hid hg3; clear hg3
        go_wp2_with fail
        go_roundw
        case rel => exact ⟨k + 1, chX m x, by omega, by go_num, HI.out.next HX.out H0.out (HD.out.bytes x (List.mem_of_getElem? HX.out)) (HSD.out.2 x (List.mem_of_getElem? HX.out)) HB2.out H3.out HG3.out⟩
        case measure => simp [intOf]; omega
      · have hf := HI.out.fail HX.out h0
        have hne : (refT (flsX m) x.dl == 0) = false := by rw [beq_eq_false_iff_ne]; exact h0
        have HB2 := Lib.hid hb2; clear hb2
        have HF := Lib.hid hf; clear hf
        clear e1 e2 e3 h0
        go_wp2_with fail
        go_ret2
        show ApplyPost w (applyT (flsX l) (D.map DX.dl)) _ _
        rw [HF.out]
        exact ⟨rfl, HI.out.bel.trans (HB2.out.mono HI.out.bel.size)⟩
    · obtain rfl : k = D.length := by omega
      have hf := HI.out.done
      have HF := Lib.hid hf; clear hf
      have HL := Lib.hid (long_any m Am cm wr HI.out.tree)
      cases hlong : longT (flsX m) with
      | true =>
        rw [hlong] at HL
        have hf := HF.out
        rw [hlong, if_pos rfl] at hf
        clear HF
        have HF := Lib.hid hf; clear hf
        clear hlong
        go_wp2_with fail
        refine HL.out.mono ?_
        rintro e w2 ⟨rfl, hb2⟩
        have HB2 := Lib.hid hb2; clear hb2
        go_wp2_with fail
        go_ret2
        show ApplyPost w (applyT (flsX l) (D.map DX.dl)) _ _
        rw [HF.out]
        exact ⟨rfl, HI.out.bel.trans (HB2.out.mono HI.out.bel.size)⟩
      | false =>
        rw [hlong] at HL
        have hf := HF.out
        rw [hlong, if_neg (by decide)] at hf
        clear HF hlong
        cases hright : rightT (flsX m) with
        | false =>
          rw [hright, if_neg (by decide)] at hf
          have HF := Lib.hid hf; clear hf
          have HRI := Lib.hid hright; clear hright
          go_wp2_with fail
          refine HL.out.mono ?_
          rintro e w2 ⟨rfl, hb2⟩
          have HR := Lib.hid (tright_any m Am cm w2 (HI.out.tree.below hb2) HI.out.pat ((HM.out.below HI.out.bel).below hb2))
          rw [HRI.out] at HR
          have HB2 := Lib.hid hb2; clear hb2
          go_wp2_with fail
          refine HR.out.mono ?_
          rintro e w3 ⟨rfl, hb3⟩
          have HB3 := Lib.hid (HB2.out.trans (hb3.mono HB2.out.size)); clear hb3
          go_wp2_with fail
          go_ret2
          show ApplyPost w (applyT (flsX l) (D.map DX.dl)) _ _
          rw [HF.out]
          exact ⟨rfl, HI.out.bel.trans (HB3.out.mono HI.out.bel.size)⟩
        | true =>
          rw [hright, if_pos rfl] at hf
          have HF := Lib.hid hf; clear hf
          have HRI := Lib.hid hright; clear hright
          go_wp2_with fail
          refine HL.out.mono ?_
          rintro e w2 ⟨rfl, hb2⟩
          have HR := Lib.hid (tright_any m Am cm w2 (HI.out.tree.below hb2) HI.out.pat ((HM.out.below HI.out.bel).below hb2))
          rw [HRI.out] at HR
          have HB2 := Lib.hid hb2; clear hb2
          go_wp2_with fail
          refine HR.out.mono ?_
          rintro e w3 ⟨rfl, hb3⟩
          have hb3 := HB2.out.trans (hb3.mono HB2.out.size)
          have hbw := HI.out.bel.trans (hb3.mono HI.out.bel.size)
          have HO := Lib.hid (run_own w.heap.size m (.slice Am m.length cm) w w3 (HI.out.own.below hb3) (by omega) (HI.out.bod.below hbw) hbw hbw.size)
          clear hb3 hbw
          go_wp2_with fail
          refine HO.out.mono ?_
          rintro e w4 ⟨l', rfl, h4, h5, hb4⟩
          have H4 := Lib.hid h4; clear h4
          have HB4 := Lib.hid hb4; clear hb4
          go_wp2_with fail
          go_ret2
          show ApplyPost w (applyT (flsX l) (D.map DX.dl)) _ _
          rw [HF.out]
          exact ⟨_, l', rfl, H4.out, h5, HB4.out⟩
end Go.Proofs.YtffhfllikamccaaGreatDoor
