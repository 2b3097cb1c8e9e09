/-
  The contract of build.Parse.
-/
import Derived.Test.YtckpojkbcbogbaaDoorBdActz
import Derived.Test.YtckpojkbcbogbaaDoorBdPlace
import Derived.Deep.Cut
import Derived.Defers
namespace Go.Proofs.YtckpojkbcbogbaaDoor
open Go Go.RowKit Go.Shelf Go.Proofs
attribute [local go_sem] Oper.semAt_some

/-- What Parse answers: also, that the rows of texts are the call's own. -/
def BdPostT (r : Int × List Tg) (w : World) (e : Ending) (w' : World) : Prop := ∃ A c l, e = .returned (.tuple #[.slice A (List.length l) c, .int .i64 r.1]) ∧ TgsAt w' A c l ∧ (A = none → c = 0) ∧ (∀ x ∈ l, TgT w.heap.size w' x) ∧ tgsX l = r.2 ∧ Below w.heap.size w w'
theorem BdPostT.plain {r : Int × List Tg} {w : World} {e : Ending} {w' : World} (h : BdPostT r w e w') : BdPost r w e w' := by
  obtain ⟨A, c, l, h1, h2, _, _, h4, h5⟩ := h
  exact ⟨A, c, l, h1, h2, h4, h5⟩
theorem TgT.lower {base base' : Nat} {w : World} {x : TX} (t : TgT base w x) (hb : base' ≤ base) : TgT base' w x := ⟨t.s.lower2 hb, t.sc, t.cm, t.d.lower2 hb, t.dc, t.bm, t.lt⟩
theorem names_made (w : World) : NamesAt (w.alloc (.map #[] 0)) w.heap.size 0 [] :=
  ⟨0, .map [], World.ownsMap_made w _ _ _, Nat.le_refl _, fun s => by simp [Maps.has]⟩
theorem TgsAt.nil0 (w : World) : TgsAt w none 0 [] := ⟨Nat.le_refl _, Nat.zero_le _, fun h => absurd h (by simp), fun x hx => by cases hx⟩
theorem RdO.setLow {base R m b o : Nat} {dir : ByteArray} {L : List TX} {K : List Bs} {W : World} {v : Value} (h : RdO base R m dir L K W) (hb : b < base) (hR : b ≠ R) (hm : b ≠ m) : RdO base R m dir L K (W.setCell ⟨b, o, none⟩ v) := by
  have ho : ∀ j, j ≠ b → (W.setCell ⟨b, o, none⟩ v).heap[j]? = W.heap[j]? := fun j hj => heap_setCell_other W ⟨b, o, none⟩ j _ hj
  exact h.kept2 (by simp [World.setCell]) (fun o h => (ho R (by omega)).trans h) (fun o h => (ho m (by omega)).trans h) (fun j cur t hj h => (ho j (by omega)).trans h)
theorem RdO.tgs {base R m : Nat} {dir : ByteArray} {L : List TX} {K : List Bs} {W W' : World} {A : Option Addr} {n c : Nat} {x : Value} (h : RdO base R m dir L K W') (e : W.heap[R]? = some (.cells #[x, .string dir, .slice A n c, .map (some m)] 70 (0, 0))) (k : W'.heap[R]? = W.heap[R]?) : TgsAt W' A c L := by
  obtain ⟨A', c', hb, hL⟩ := h.slice
  rw [k, e] at hb
  simp only [Option.some.injEq, Obj.cells.injEq, Array.mk.injEq, List.cons.injEq, Value.slice.injEq, true_and, and_true] at hb
  obtain ⟨_, rfl, _, rfl⟩ := hb
  exact hL
theorem RdO.nilc {base R m : Nat} {dir : ByteArray} {L : List TX} {K : List Bs} {W W' : World} {A : Option Addr} {n c : Nat} {x : Value} (h : RdO base R m dir L K W') (e : W.heap[R]? = some (.cells #[x, .string dir, .slice A n c, .map (some m)] 70 (0, 0))) (k : W'.heap[R]? = W.heap[R]?) : A = none → c = 0 := by
  obtain ⟨A', c', hb, hO⟩ := h.box
  rw [k, e] at hb
  simp only [Option.some.injEq, Obj.cells.injEq, Array.mk.injEq, List.cons.injEq, Value.slice.injEq, true_and, and_true] at hb
  obtain ⟨_, rfl, _, rfl⟩ := hb
  intro hA
  subst hA
  rcases hO.2 with ⟨e1, _⟩ | ⟨g, cap, cur, e1, _⟩
  · simp only [Value.slice.injEq] at e1; exact e1.2.2
  · simp at e1
theorem btoldD_ok (b e : Nat) (v : Value) (w : World) (u : FrameMode) (hv : Boxed w b 26 v) (he : Boxed w e 27 (.int .i64 0)) :
    CallsD Tryd.prog 21 #[.pointer (some ⟨b, 0, none⟩), .pointer (some ⟨e, 0, none⟩)] u w fun r u' w' => u' = u ∧ (r = .returned (.tuple #[]) ∧ w' = w) := by
  have c0 := hv.cell
  have c1 := he.cell
  have f0 := hv.frozen
  go_enter_d Tryd.func21, Tryd.ntmps21
  go_wp2_with fail
  go_end0
  exact ⟨rfl, rfl⟩
theorem btoldD_err (b e : Nat) (v : Value) (n : Int) (w : World) (u : FrameMode) (hv : Boxed w b 26 v) (he : Boxed w e 27 (.int .i64 n)) (hn : n ≠ 0) :
    CallsD Tryd.prog 21 #[.pointer (some ⟨b, 0, none⟩), .pointer (some ⟨e, 0, none⟩)] u w fun r u' w' => u' = u ∧ (r = .returned (.tuple #[]) ∧ w' = w.setCell ⟨b, 0, none⟩ (.slice none 0 0)) := by
  have c0 := hv.cell
  have c1 := he.cell
  have f0 := hv.frozen
  have e2 : (n != 0) = true := by simpa using hn
  have e3 : (n = 0) = False := eq_false hn
  clear hn
  go_enter_d Tryd.func21, Tryd.ntmps21
  go_wp2_with fail
  go_end0
  exact ⟨rfl, rfl⟩
theorem dir_le {d : ByteArray} (h : d.data.toList.isEmpty = true) : d.size ≤ 100000 := by
  have e0 : d.data.toList.length = d.size := Array.length_toList
  have e1 : d.data.toList = [] := by simpa using h
  rw [e1] at e0; simp at e0; omega

set_option maxRecDepth 100000 in
set_option maxHeartbeats 16000000 in
theorem bparse_good (dir s : ByteArray) (w : World) (hd : dir.data.toList.isEmpty = true) (hs : s.size ≤ 16384) (hm : MaxOk w) :
    Calls Tryd.prog 16 #[.string dir, .string s] w (BdPostT (parseB dir.data.toList s.data.toList) w) := by
  have q0 : dir.toList = [] := by rw [ByteArray.toList_eq]; simpa using hd
  have q1 : dir.toList.isEmpty = true := by rw [q0]; rfl
  have s1 : ¬ (16384 : Int) < (s.size : Int) := by omega
  obtain ⟨WA, hWA⟩ : ∃ W, w.alloc (.cells #[.slice none 0 0] 26) = W := ⟨_, rfl⟩
  obtain ⟨WB, hWB⟩ : ∃ W, WA.alloc (.cells #[.int .i64 0] 27) = W := ⟨_, rfl⟩
  have zA : WA.heap.size = w.heap.size + 1 := by rw [← hWA, World.size_alloc]
  have X1 := Lib.hid (show Boxed WB w.heap.size 26 (.slice none 0 0) by rw [← hWB, ← hWA]; exact (Boxed.new w _ _).alloc _)
  have X2 := Lib.hid (show Boxed WB (w.heap.size + 1) 27 (.int .i64 0) by rw [← hWB, ← zA]; exact Boxed.new WA _ _)
  have HBB := Lib.hid (show Below w.heap.size w WB by rw [← hWB, ← hWA]; exact ((Below.refl _ _).alloc (Nat.le_refl _) _).alloc (by simp) _)
  have HWA := Lib.hid hWA
  have HWB := Lib.hid hWB
  have ZA := Lib.hid zA
  have HPB := Lib.hid (show parseB dir.data.toList s.data.toList = match parseT dir.data.toList (splitL 10 s.data.toList) with | .error e => (e, []) | .ok l => (0, l) from by
    unfold parseB
    rw [hd, if_neg (by simp), if_neg (by rw [Array.length_toList]; exact Nat.not_lt.2 hs)]
    cases parseT dir.data.toList (splitL 10 s.data.toList) <;> rfl)
  clear hWA hWB zA
  go_enter_defers Tryd.func16, Tryd.ntmps16
  go_upto_region 1 with fail
  rw [HWA.out, HWB.out]
  go_upto_region 6 with fail
  obtain ⟨m, hmz⟩ : ∃ m, WB.heap.size = m := ⟨_, rfl⟩
  have hmk := run_makeMap_plain (P := Tryd.prog) WB 67
  obtain ⟨WM, hWM⟩ : ∃ W, WB.alloc (.map #[] 0) = W := ⟨_, rfl⟩
  obtain ⟨WR, hWR⟩ : ∃ W, WM.alloc (.cells #[.pointer none, .string dir, .slice none 0 0, .map (some m)] 70) = W := ⟨_, rfl⟩
  have zM : WM.heap.size = m + 1 := by rw [← hWM, World.size_alloc, hmz]
  have zR : WR.heap.size = m + 2 := by rw [← hWR, World.size_alloc, zM]
  have bM : Below WB.heap.size WB WM := by rw [← hWM]; exact (Below.refl _ _).alloc (Nat.le_refl _) _
  have bR : Below WM.heap.size WM WR := by rw [← hWR]; exact (Below.refl _ _).alloc (Nat.le_refl _) _
  have bBR := bM.trans (bR.mono (by omega))
  have nR : NamesAt WR m 0 [] := by
    have h1 := names_made WB
    rw [hWM, hmz] at h1
    exact h1.keep fun o ho => (bR.block m (by omega)).trans ho
  have hR : WR.heap[m + 1]? = some (.cells #[.pointer none, .string dir, .slice none 0 0, .map (some m)] 70 (0, 0)) := by rw [← hWR, ← zM]; exact heap_alloc_new _ _
  have HRD := Lib.hid (bread_any (m + 1) m dir s WR hR nR (by omega) (by omega) (by omega) (dir_le hd) hs (hm.below (HBB.out.trans (bBR.mono (HBB.out.size)))))
  have y1 : Boxed WR w.heap.size 26 (.slice none 0 0) := (bBR.block _ (by have := (Array.getElem?_eq_some_iff.1 X1.out).1; omega)).trans X1.out
  have y2 : Boxed WR (w.heap.size + 1) 27 (.int .i64 0) := (bBR.block _ (by have := (Array.getElem?_eq_some_iff.1 X2.out).1; omega)).trans X2.out
  have hlo : w.heap.size + 1 < m := by have := (Array.getElem?_eq_some_iff.1 X2.out).1; omega
  have HBR := Lib.hid (HBB.out.trans (bBR.mono HBB.out.size))
  have Y1 := Lib.hid y1
  have Y2 := Lib.hid y2
  have HWR := Lib.hid hWR
  have HWM := Lib.hid hWM
  have ZM := Lib.hid zM
  have ZR := Lib.hid zR
  rw [hmz, hWM] at hmk
  clear hWR hWM zM zR bM bR bBR nR hR y1 y2 hm
  go_upto_region 7 with fail
  rw [HWR.out, ZM.out]
  go_wp2_with fail
  refine HRD.out.mono ?_
  rintro e W8 ⟨n8, L, K, rfl, hO8, hT8, hr⟩
  have hlR : WR.heap.size = m + 2 := ZR.out
  obtain ⟨A, c, hb8, hL8⟩ := hO8.slice
  have z1 : Boxed W8 w.heap.size 26 (.slice none 0 0) := (hT8.low _ (by omega) (by omega) (by omega) (by omega)).trans Y1.out
  have z2 : Boxed W8 (w.heap.size + 1) 27 (.int .i64 0) := (hT8.low _ (by omega) (by omega) (by omega) (by omega)).trans Y2.out
  have HB8 := Lib.hid (HBR.out.trans (hT8.below (n := w.heap.size) (by omega) (by omega) (by omega) (by omega)))
  have e1 := z1.cell
  have f1 := z1.frozen
  have e2 := z2.cell
  have f2 := z2.frozen
  have e3 : W8.cell? ⟨m + 1, 2, none⟩ = some (.slice A L.length c) := cell_of_row _ _ 2 _ _ _ hb8
  obtain ⟨N, hN⟩ : ∃ N, L.length = N := ⟨_, rfl⟩
  rw [hN] at e3
  have HN := Lib.hid hN
  have HL8 := Lib.hid hL8
  have HB8R := Lib.hid hb8
  have HO8 := Lib.hid hO8
  have HRR := Lib.hid hr
  have Z1 := Lib.hid z1
  have Z2 := Lib.hid z2
  clear hb8 hO8 hT8 hL8 hr z1 z2 hN hmk
  go_wp2_with fail
  obtain ⟨V1, hV1⟩ : ∃ V, W8.setCell ⟨w.heap.size + 1, 0, none⟩ (.int .i64 n8) = V := ⟨_, rfl⟩
  obtain ⟨V2, hV2⟩ : ∃ V, V1.setCell ⟨w.heap.size, 0, none⟩ (.slice A N c) = V := ⟨_, rfl⟩
  obtain ⟨V3, hV3⟩ : ∃ V, V2.setCell ⟨w.heap.size + 1, 0, none⟩ (.int .i64 n8) = V := ⟨_, rfl⟩
  have hO3 : RdO WR.heap.size (m + 1) m dir L K V3 := by rw [← hV3, ← hV2, ← hV1]; exact ((HO8.out.setLow (by omega) (by omega) (by omega)).setLow (by omega) (by omega) (by omega)).setLow (by omega) (by omega) (by omega)
  have hR3 : V3.heap[m + 1]? = W8.heap[m + 1]? := by
    rw [← hV3, ← hV2, ← hV1]
    exact (heap_setCell_other _ ⟨w.heap.size + 1, 0, none⟩ (m + 1) _ (by show m + 1 ≠ w.heap.size + 1; omega)).trans ((heap_setCell_other _ ⟨w.heap.size, 0, none⟩ (m + 1) _ (by show m + 1 ≠ w.heap.size; omega)).trans (heap_setCell_other _ ⟨w.heap.size + 1, 0, none⟩ (m + 1) _ (by show m + 1 ≠ w.heap.size + 1; omega)))
  have x1 : Boxed V3 w.heap.size 26 (.slice A N c) := by
    have a : Boxed V1 w.heap.size 26 (.slice none 0 0) := by rw [← hV1]; exact (heap_setCell_other _ ⟨w.heap.size + 1, 0, none⟩ w.heap.size _ (by show w.heap.size ≠ w.heap.size + 1; omega)).trans Z1.out
    have b : Boxed V2 w.heap.size 26 (.slice A N c) := by rw [← hV2]; exact a.set _
    rw [← hV3]; exact (heap_setCell_other _ ⟨w.heap.size + 1, 0, none⟩ w.heap.size _ (by show w.heap.size ≠ w.heap.size + 1; omega)).trans b
  have x2 : Boxed V3 (w.heap.size + 1) 27 (.int .i64 n8) := by
    have a : Boxed V1 (w.heap.size + 1) 27 (.int .i64 n8) := by rw [← hV1]; exact Z2.out.set _
    have b : Boxed V2 (w.heap.size + 1) 27 (.int .i64 n8) := by rw [← hV2]; exact (heap_setCell_other _ ⟨w.heap.size, 0, none⟩ (w.heap.size + 1) _ (by show w.heap.size + 1 ≠ w.heap.size; omega)).trans a
    rw [← hV3]; exact b.set _
  have b3 : Below w.heap.size w V3 := by rw [← hV3, ← hV2, ← hV1]; exact ((HB8.out.setCell (p := ⟨w.heap.size + 1, 0, none⟩) (Nat.le_succ _) _).setCell (p := ⟨w.heap.size, 0, none⟩) (Nat.le_refl _) _).setCell (p := ⟨w.heap.size + 1, 0, none⟩) (Nat.le_succ _) _
  rw [hV1, hV2, hV3]
  refine leaves_cons (f := 21) (args := #[.pointer (some ⟨w.heap.size, 0, none⟩), .pointer (some ⟨w.heap.size + 1, 0, none⟩)]) (by simp) (by simp [go_sem]) ?_
  rcases HRR.out with ⟨hn0, hpt⟩ | ⟨hn0, hpt, hK⟩
  · refine (btoldD_err w.heap.size (w.heap.size + 1) _ n8 V3 .returning x1 x2 hn0).mono ?_
    rintro e u' w' ⟨rfl, rfl, rfl⟩
    have c5 := (x1.set (.slice none 0 0)).cell
    have c6 : Boxed (V3.setCell ⟨w.heap.size, 0, none⟩ (.slice none 0 0)) (w.heap.size + 1) 27 (.int .i64 n8) := (heap_setCell_other _ ⟨w.heap.size, 0, none⟩ (w.heap.size + 1) _ (by show w.heap.size + 1 ≠ w.heap.size; omega)).trans x2
    have c7 := c6.cell
    refine ⟨.tuple #[.slice none 0 0, .int .i64 n8], by simp [results, Tryd.f16, go_sem, c5, c7], ?_⟩
    exact ⟨none, 0, [], by rw [HPB.out, hpt]; rfl, TgsAt.nil0 _, (fun _ => rfl), (fun x hx => by cases hx), by rw [HPB.out, hpt]; rfl, b3.setCell (p := ⟨w.heap.size, 0, none⟩) (Nat.le_refl _) _⟩
  · subst hn0
    refine (btoldD_ok w.heap.size (w.heap.size + 1) _ V3 .returning x1 x2).mono ?_
    rintro e u' w' ⟨rfl, rfl, rfl⟩
    have c5 := x1.cell
    have c7 := x2.cell
    refine ⟨.tuple #[.slice A N c, .int .i64 0], by simp [results, Tryd.f16, go_sem, c5, c7], ?_⟩
    have hlen := HN.out
    subst hlen
    exact ⟨A, c, L, by rw [HPB.out, hpt], hO3.tgs HB8R.out hR3, hO3.nilc HB8R.out hR3, (fun x hx => (hO3.own x hx).lower (by omega)), by rw [HPB.out, hpt], b3⟩
set_option maxRecDepth 100000 in
set_option maxHeartbeats 16000000 in
theorem bparse_right (dir s : ByteArray) (w : World) (hd : dir.data.toList.isEmpty = false) (hdz : dir.size ≤ 100000) (hdr : rightB dir.data.toList = true) (hs : s.size ≤ 16384) (hm : MaxOk w) :
    Calls Tryd.prog 16 #[.string dir, .string s] w (BdPostT (parseB dir.data.toList s.data.toList) w) := by
  have q1 : dir.toList.isEmpty = false := by rw [ByteArray.toList_eq]; exact hd
  have s1 : ¬ (16384 : Int) < (s.size : Int) := by omega
  obtain ⟨WA, hWA⟩ : ∃ W, w.alloc (.cells #[.slice none 0 0] 26) = W := ⟨_, rfl⟩
  obtain ⟨WB, hWB⟩ : ∃ W, WA.alloc (.cells #[.int .i64 0] 27) = W := ⟨_, rfl⟩
  have zA : WA.heap.size = w.heap.size + 1 := by rw [← hWA, World.size_alloc]
  have zB : WB.heap.size = w.heap.size + 2 := by rw [← hWB, World.size_alloc, zA]
  have X01 := Lib.hid (show Boxed WB w.heap.size 26 (.slice none 0 0) by rw [← hWB, ← hWA]; exact (Boxed.new w _ _).alloc _)
  have X02 := Lib.hid (show Boxed WB (w.heap.size + 1) 27 (.int .i64 0) by rw [← hWB, ← zA]; exact Boxed.new WA _ _)
  have HB0 := Lib.hid (show Below w.heap.size w WB by rw [← hWB, ← hWA]; exact ((Below.refl _ _).alloc (Nat.le_refl _) _).alloc (by simp) _)
  have HWA := Lib.hid hWA
  have HWB := Lib.hid hWB
  have ZB := Lib.hid zB
  clear hWA hWB zA zB
  have HRT := Lib.hid (right_any dir WB (by unfold maxLen; omega) (hm.below HB0.out))
  rw [hdr] at HRT
  have HPB := Lib.hid (show parseB dir.data.toList s.data.toList = match parseT dir.data.toList (splitL 10 s.data.toList) with | .error e => (e, []) | .ok l => (0, l) from by
    unfold parseB
    rw [hd, hdr, if_neg (by simp), if_neg (by rw [Array.length_toList]; exact Nat.not_lt.2 hs)]
    cases parseT dir.data.toList (splitL 10 s.data.toList) <;> rfl)
  clear hdr hd
  go_enter_defers Tryd.func16, Tryd.ntmps16
  go_upto_region 1 with fail
  rw [HWA.out, HWB.out]
  go_wp2_with fail
  refine HRT.out.mono ?_
  rintro e WC ⟨rfl, hbc⟩
  have HBB := Lib.hid (HB0.out.trans (hbc.mono HB0.out.size))
  have X1 := Lib.hid (show Boxed WC w.heap.size 26 (.slice none 0 0) from (hbc.block _ (by rw [ZB.out]; omega)).trans X01.out)
  have X2 := Lib.hid (show Boxed WC (w.heap.size + 1) 27 (.int .i64 0) from (hbc.block _ (by rw [ZB.out]; omega)).trans X02.out)
  clear hbc HRT
  go_upto_region 6 with fail
  obtain ⟨m, hmz⟩ : ∃ m, WC.heap.size = m := ⟨_, rfl⟩
  have hmk := run_makeMap_plain (P := Tryd.prog) WC 67
  obtain ⟨WM, hWM⟩ : ∃ W, WC.alloc (.map #[] 0) = W := ⟨_, rfl⟩
  obtain ⟨WR, hWR⟩ : ∃ W, WM.alloc (.cells #[.pointer none, .string dir, .slice none 0 0, .map (some m)] 70) = W := ⟨_, rfl⟩
  have zM : WM.heap.size = m + 1 := by rw [← hWM, World.size_alloc, hmz]
  have zR : WR.heap.size = m + 2 := by rw [← hWR, World.size_alloc, zM]
  have bM : Below WC.heap.size WC WM := by rw [← hWM]; exact (Below.refl _ _).alloc (Nat.le_refl _) _
  have bR : Below WM.heap.size WM WR := by rw [← hWR]; exact (Below.refl _ _).alloc (Nat.le_refl _) _
  have bBR := bM.trans (bR.mono (by omega))
  have nR : NamesAt WR m 0 [] := by
    have h1 := names_made WC
    rw [hWM, hmz] at h1
    exact h1.keep fun o ho => (bR.block m (by omega)).trans ho
  have hR : WR.heap[m + 1]? = some (.cells #[.pointer none, .string dir, .slice none 0 0, .map (some m)] 70 (0, 0)) := by rw [← hWR, ← zM]; exact heap_alloc_new _ _
  have HRD := Lib.hid (bread_any (m + 1) m dir s WR hR nR (by omega) (by omega) (by omega) hdz hs (hm.below (HBB.out.trans (bBR.mono (HBB.out.size)))))
  have y1 : Boxed WR w.heap.size 26 (.slice none 0 0) := (bBR.block _ (by have := (Array.getElem?_eq_some_iff.1 X1.out).1; omega)).trans X1.out
  have y2 : Boxed WR (w.heap.size + 1) 27 (.int .i64 0) := (bBR.block _ (by have := (Array.getElem?_eq_some_iff.1 X2.out).1; omega)).trans X2.out
  have hlo : w.heap.size + 1 < m := by have := (Array.getElem?_eq_some_iff.1 X2.out).1; omega
  have HBR := Lib.hid (HBB.out.trans (bBR.mono HBB.out.size))
  have Y1 := Lib.hid y1
  have Y2 := Lib.hid y2
  have HWR := Lib.hid hWR
  have HWM := Lib.hid hWM
  have ZM := Lib.hid zM
  have ZR := Lib.hid zR
  rw [hmz, hWM] at hmk
  clear hWR hWM zM zR bM bR bBR nR hR y1 y2 hm
  go_upto_region 7 with fail
  rw [HWR.out, ZM.out]
  go_wp2_with fail
  refine HRD.out.mono ?_
  rintro e W8 ⟨n8, L, K, rfl, hO8, hT8, hr⟩
  have hlR : WR.heap.size = m + 2 := ZR.out
  obtain ⟨A, c, hb8, hL8⟩ := hO8.slice
  have z1 : Boxed W8 w.heap.size 26 (.slice none 0 0) := (hT8.low _ (by omega) (by omega) (by omega) (by omega)).trans Y1.out
  have z2 : Boxed W8 (w.heap.size + 1) 27 (.int .i64 0) := (hT8.low _ (by omega) (by omega) (by omega) (by omega)).trans Y2.out
  have HB8 := Lib.hid (HBR.out.trans (hT8.below (n := w.heap.size) (by omega) (by omega) (by omega) (by omega)))
  have e1 := z1.cell
  have f1 := z1.frozen
  have e2 := z2.cell
  have f2 := z2.frozen
  have e3 : W8.cell? ⟨m + 1, 2, none⟩ = some (.slice A L.length c) := cell_of_row _ _ 2 _ _ _ hb8
  obtain ⟨N, hN⟩ : ∃ N, L.length = N := ⟨_, rfl⟩
  rw [hN] at e3
  have HN := Lib.hid hN
  have HL8 := Lib.hid hL8
  have HB8R := Lib.hid hb8
  have HO8 := Lib.hid hO8
  have HRR := Lib.hid hr
  have Z1 := Lib.hid z1
  have Z2 := Lib.hid z2
  clear hb8 hO8 hT8 hL8 hr z1 z2 hN hmk
  go_wp2_with fail
  obtain ⟨V1, hV1⟩ : ∃ V, W8.setCell ⟨w.heap.size + 1, 0, none⟩ (.int .i64 n8) = V := ⟨_, rfl⟩
  obtain ⟨V2, hV2⟩ : ∃ V, V1.setCell ⟨w.heap.size, 0, none⟩ (.slice A N c) = V := ⟨_, rfl⟩
  obtain ⟨V3, hV3⟩ : ∃ V, V2.setCell ⟨w.heap.size + 1, 0, none⟩ (.int .i64 n8) = V := ⟨_, rfl⟩
  have hO3 : RdO WR.heap.size (m + 1) m dir L K V3 := by rw [← hV3, ← hV2, ← hV1]; exact ((HO8.out.setLow (by omega) (by omega) (by omega)).setLow (by omega) (by omega) (by omega)).setLow (by omega) (by omega) (by omega)
  have hR3 : V3.heap[m + 1]? = W8.heap[m + 1]? := by
    rw [← hV3, ← hV2, ← hV1]
    exact (heap_setCell_other _ ⟨w.heap.size + 1, 0, none⟩ (m + 1) _ (by show m + 1 ≠ w.heap.size + 1; omega)).trans ((heap_setCell_other _ ⟨w.heap.size, 0, none⟩ (m + 1) _ (by show m + 1 ≠ w.heap.size; omega)).trans (heap_setCell_other _ ⟨w.heap.size + 1, 0, none⟩ (m + 1) _ (by show m + 1 ≠ w.heap.size + 1; omega)))
  have x1 : Boxed V3 w.heap.size 26 (.slice A N c) := by
    have a : Boxed V1 w.heap.size 26 (.slice none 0 0) := by rw [← hV1]; exact (heap_setCell_other _ ⟨w.heap.size + 1, 0, none⟩ w.heap.size _ (by show w.heap.size ≠ w.heap.size + 1; omega)).trans Z1.out
    have b : Boxed V2 w.heap.size 26 (.slice A N c) := by rw [← hV2]; exact a.set _
    rw [← hV3]; exact (heap_setCell_other _ ⟨w.heap.size + 1, 0, none⟩ w.heap.size _ (by show w.heap.size ≠ w.heap.size + 1; omega)).trans b
  have x2 : Boxed V3 (w.heap.size + 1) 27 (.int .i64 n8) := by
    have a : Boxed V1 (w.heap.size + 1) 27 (.int .i64 n8) := by rw [← hV1]; exact Z2.out.set _
    have b : Boxed V2 (w.heap.size + 1) 27 (.int .i64 n8) := by rw [← hV2]; exact (heap_setCell_other _ ⟨w.heap.size, 0, none⟩ (w.heap.size + 1) _ (by show w.heap.size + 1 ≠ w.heap.size; omega)).trans a
    rw [← hV3]; exact b.set _
  have b3 : Below w.heap.size w V3 := by rw [← hV3, ← hV2, ← hV1]; exact ((HB8.out.setCell (p := ⟨w.heap.size + 1, 0, none⟩) (Nat.le_succ _) _).setCell (p := ⟨w.heap.size, 0, none⟩) (Nat.le_refl _) _).setCell (p := ⟨w.heap.size + 1, 0, none⟩) (Nat.le_succ _) _
  rw [hV1, hV2, hV3]
  refine leaves_cons (f := 21) (args := #[.pointer (some ⟨w.heap.size, 0, none⟩), .pointer (some ⟨w.heap.size + 1, 0, none⟩)]) (by simp) (by simp [go_sem]) ?_
  rcases HRR.out with ⟨hn0, hpt⟩ | ⟨hn0, hpt, hK⟩
  · refine (btoldD_err w.heap.size (w.heap.size + 1) _ n8 V3 .returning x1 x2 hn0).mono ?_
    rintro e u' w' ⟨rfl, rfl, rfl⟩
    have c5 := (x1.set (.slice none 0 0)).cell
    have c6 : Boxed (V3.setCell ⟨w.heap.size, 0, none⟩ (.slice none 0 0)) (w.heap.size + 1) 27 (.int .i64 n8) := (heap_setCell_other _ ⟨w.heap.size, 0, none⟩ (w.heap.size + 1) _ (by show w.heap.size + 1 ≠ w.heap.size; omega)).trans x2
    have c7 := c6.cell
    refine ⟨.tuple #[.slice none 0 0, .int .i64 n8], by simp [results, Tryd.f16, go_sem, c5, c7], ?_⟩
    exact ⟨none, 0, [], by rw [HPB.out, hpt]; rfl, TgsAt.nil0 _, (fun _ => rfl), (fun x hx => by cases hx), by rw [HPB.out, hpt]; rfl, b3.setCell (p := ⟨w.heap.size, 0, none⟩) (Nat.le_refl _) _⟩
  · subst hn0
    refine (btoldD_ok w.heap.size (w.heap.size + 1) _ V3 .returning x1 x2).mono ?_
    rintro e u' w' ⟨rfl, rfl, rfl⟩
    have c5 := x1.cell
    have c7 := x2.cell
    refine ⟨.tuple #[.slice A N c, .int .i64 0], by simp [results, Tryd.f16, go_sem, c5, c7], ?_⟩
    have hlen := HN.out
    subst hlen
    exact ⟨A, c, L, by rw [HPB.out, hpt], hO3.tgs HB8R.out hR3, hO3.nilc HB8R.out hR3, (fun x hx => (hO3.own x hx).lower (by omega)), by rw [HPB.out, hpt], b3⟩
set_option maxRecDepth 100000 in
set_option maxHeartbeats 4000000 in
theorem bparse_bad (dir s : ByteArray) (w : World) (hd : dir.data.toList.isEmpty = false) (hdz : dir.size ≤ 100000) (hdr : rightB dir.data.toList = false) (hm : MaxOk w) :
    Calls Tryd.prog 16 #[.string dir, .string s] w (BdPostT (parseB dir.data.toList s.data.toList) w) := by
  have q1 : dir.toList.isEmpty = false := by rw [ByteArray.toList_eq]; exact hd
  obtain ⟨WA, hWA⟩ : ∃ W, w.alloc (.cells #[.slice none 0 0] 26) = W := ⟨_, rfl⟩
  obtain ⟨WB, hWB⟩ : ∃ W, WA.alloc (.cells #[.int .i64 0] 27) = W := ⟨_, rfl⟩
  have zA : WA.heap.size = w.heap.size + 1 := by rw [← hWA, World.size_alloc]
  have zB : WB.heap.size = w.heap.size + 2 := by rw [← hWB, World.size_alloc, zA]
  have X01 := Lib.hid (show Boxed WB w.heap.size 26 (.slice none 0 0) by rw [← hWB, ← hWA]; exact (Boxed.new w _ _).alloc _)
  have X02 := Lib.hid (show Boxed WB (w.heap.size + 1) 27 (.int .i64 0) by rw [← hWB, ← zA]; exact Boxed.new WA _ _)
  have HB0 := Lib.hid (show Below w.heap.size w WB by rw [← hWB, ← hWA]; exact ((Below.refl _ _).alloc (Nat.le_refl _) _).alloc (by simp) _)
  have HWA := Lib.hid hWA
  have HWB := Lib.hid hWB
  have ZB := Lib.hid zB
  clear hWA hWB zA zB
  have HRT := Lib.hid (right_any dir WB (by unfold maxLen; omega) (hm.below HB0.out))
  rw [hdr] at HRT
  have HPB := Lib.hid (show parseB dir.data.toList s.data.toList = (4, []) from by
    unfold parseB
    rw [hd, hdr, if_pos (by simp)])
  clear hdr hd
  go_enter_defers Tryd.func16, Tryd.ntmps16
  go_upto_region 1 with fail
  rw [HWA.out, HWB.out]
  go_wp2_with fail
  refine HRT.out.mono ?_
  rintro e WC ⟨rfl, hbc⟩
  have hbw := HB0.out.trans (hbc.mono HB0.out.size)
  have x01 : Boxed WC w.heap.size 26 (.slice none 0 0) := (hbc.block _ (by rw [ZB.out]; omega)).trans X01.out
  have x02 : Boxed WC (w.heap.size + 1) 27 (.int .i64 0) := (hbc.block _ (by rw [ZB.out]; omega)).trans X02.out
  have e1 := x01.cell
  have f1 := x01.frozen
  have e2 := x02.cell
  have f2 := x02.frozen
  clear hbc HRT
  go_wp2_with fail
  have x1 := x01.set (.slice none 0 0)
  have x2 : Boxed (WC.setCell ⟨w.heap.size, 0, none⟩ (.slice none 0 0)) (w.heap.size + 1) 27 (.int .i64 0) := (heap_setCell_other _ ⟨w.heap.size, 0, none⟩ (w.heap.size + 1) _ (by show w.heap.size + 1 ≠ w.heap.size; omega)).trans x02
  have y1 : Boxed ((WC.setCell ⟨w.heap.size, 0, none⟩ (.slice none 0 0)).setCell ⟨w.heap.size + 1, 0, none⟩ (.int .i64 4)) w.heap.size 26 (.slice none 0 0) := (heap_setCell_other _ ⟨w.heap.size + 1, 0, none⟩ w.heap.size _ (by show w.heap.size ≠ w.heap.size + 1; omega)).trans x1
  have y2 := x2.set (.int .i64 4)
  have c5 := y1.cell
  have c7 := y2.cell
  refine ⟨.tuple #[.slice none 0 0, .int .i64 4], by simp [results, Tryd.f16, go_sem, c5, c7], ?_⟩
  exact ⟨none, 0, [], by rw [HPB.out]; rfl, TgsAt.nil0 _, (fun _ => rfl), (fun x hx => by cases hx), by rw [HPB.out]; rfl, (hbw.setCell (p := ⟨w.heap.size, 0, none⟩) (Nat.le_refl _) _).setCell (p := ⟨w.heap.size + 1, 0, none⟩) (Nat.le_succ _) _⟩
set_option maxRecDepth 100000 in
set_option maxHeartbeats 4000000 in
theorem bparse_longR (dir s : ByteArray) (w : World) (hd : dir.data.toList.isEmpty = false) (hdz : dir.size ≤ 100000) (hdr : rightB dir.data.toList = true) (hs : 16384 < s.size) (hm : MaxOk w) :
    Calls Tryd.prog 16 #[.string dir, .string s] w (BdPostT (parseB dir.data.toList s.data.toList) w) := by
  have q1 : dir.toList.isEmpty = false := by rw [ByteArray.toList_eq]; exact hd
  have s1 : (16384 : Int) < (s.size : Int) := by omega
  obtain ⟨WA, hWA⟩ : ∃ W, w.alloc (.cells #[.slice none 0 0] 26) = W := ⟨_, rfl⟩
  obtain ⟨WB, hWB⟩ : ∃ W, WA.alloc (.cells #[.int .i64 0] 27) = W := ⟨_, rfl⟩
  have zA : WA.heap.size = w.heap.size + 1 := by rw [← hWA, World.size_alloc]
  have zB : WB.heap.size = w.heap.size + 2 := by rw [← hWB, World.size_alloc, zA]
  have X01 := Lib.hid (show Boxed WB w.heap.size 26 (.slice none 0 0) by rw [← hWB, ← hWA]; exact (Boxed.new w _ _).alloc _)
  have X02 := Lib.hid (show Boxed WB (w.heap.size + 1) 27 (.int .i64 0) by rw [← hWB, ← zA]; exact Boxed.new WA _ _)
  have HB0 := Lib.hid (show Below w.heap.size w WB by rw [← hWB, ← hWA]; exact ((Below.refl _ _).alloc (Nat.le_refl _) _).alloc (by simp) _)
  have HWA := Lib.hid hWA
  have HWB := Lib.hid hWB
  have ZB := Lib.hid zB
  clear hWA hWB zA zB
  have HRT := Lib.hid (right_any dir WB (by unfold maxLen; omega) (hm.below HB0.out))
  rw [hdr] at HRT
  have HPB := Lib.hid (show parseB dir.data.toList s.data.toList = (3, []) from by
    unfold parseB
    rw [hd, hdr, if_neg (by simp), if_pos (by rw [Array.length_toList]; exact hs)])
  clear hdr hd hs
  go_enter_defers Tryd.func16, Tryd.ntmps16
  go_upto_region 1 with fail
  rw [HWA.out, HWB.out]
  go_wp2_with fail
  refine HRT.out.mono ?_
  rintro e WC ⟨rfl, hbc⟩
  have hbw := HB0.out.trans (hbc.mono HB0.out.size)
  have x01 : Boxed WC w.heap.size 26 (.slice none 0 0) := (hbc.block _ (by rw [ZB.out]; omega)).trans X01.out
  have x02 : Boxed WC (w.heap.size + 1) 27 (.int .i64 0) := (hbc.block _ (by rw [ZB.out]; omega)).trans X02.out
  have e1 := x01.cell
  have f1 := x01.frozen
  have e2 := x02.cell
  have f2 := x02.frozen
  clear hbc HRT
  go_wp2_with fail
  have x1 := x01.set (.slice none 0 0)
  have x2 : Boxed (WC.setCell ⟨w.heap.size, 0, none⟩ (.slice none 0 0)) (w.heap.size + 1) 27 (.int .i64 0) := (heap_setCell_other _ ⟨w.heap.size, 0, none⟩ (w.heap.size + 1) _ (by show w.heap.size + 1 ≠ w.heap.size; omega)).trans x02
  have y1 : Boxed ((WC.setCell ⟨w.heap.size, 0, none⟩ (.slice none 0 0)).setCell ⟨w.heap.size + 1, 0, none⟩ (.int .i64 3)) w.heap.size 26 (.slice none 0 0) := (heap_setCell_other _ ⟨w.heap.size + 1, 0, none⟩ w.heap.size _ (by show w.heap.size ≠ w.heap.size + 1; omega)).trans x1
  have y2 := x2.set (.int .i64 3)
  have c5 := y1.cell
  have c7 := y2.cell
  refine ⟨.tuple #[.slice none 0 0, .int .i64 3], by simp [results, Tryd.f16, go_sem, c5, c7], ?_⟩
  exact ⟨none, 0, [], by rw [HPB.out]; rfl, TgsAt.nil0 _, (fun _ => rfl), (fun x hx => by cases hx), by rw [HPB.out]; rfl, (hbw.setCell (p := ⟨w.heap.size, 0, none⟩) (Nat.le_refl _) _).setCell (p := ⟨w.heap.size + 1, 0, none⟩) (Nat.le_succ _) _⟩
set_option maxRecDepth 100000 in
set_option maxHeartbeats 4000000 in
theorem bparse_longE (dir s : ByteArray) (w : World) (hd : dir.data.toList.isEmpty = true) (hs : 16384 < s.size) (_hm : MaxOk w) :
    Calls Tryd.prog 16 #[.string dir, .string s] w (BdPostT (parseB dir.data.toList s.data.toList) w) := by
  have q1 : dir.toList.isEmpty = true := by rw [ByteArray.toList_eq]; exact hd
  have s1 : (16384 : Int) < (s.size : Int) := by omega
  obtain ⟨WA, hWA⟩ : ∃ W, w.alloc (.cells #[.slice none 0 0] 26) = W := ⟨_, rfl⟩
  obtain ⟨WB, hWB⟩ : ∃ W, WA.alloc (.cells #[.int .i64 0] 27) = W := ⟨_, rfl⟩
  have zA : WA.heap.size = w.heap.size + 1 := by rw [← hWA, World.size_alloc]
  have zB : WB.heap.size = w.heap.size + 2 := by rw [← hWB, World.size_alloc, zA]
  have X01 := Lib.hid (show Boxed WB w.heap.size 26 (.slice none 0 0) by rw [← hWB, ← hWA]; exact (Boxed.new w _ _).alloc _)
  have X02 := Lib.hid (show Boxed WB (w.heap.size + 1) 27 (.int .i64 0) by rw [← hWB, ← zA]; exact Boxed.new WA _ _)
  have HB0 := Lib.hid (show Below w.heap.size w WB by rw [← hWB, ← hWA]; exact ((Below.refl _ _).alloc (Nat.le_refl _) _).alloc (by simp) _)
  have HWA := Lib.hid hWA
  have HWB := Lib.hid hWB
  have ZB := Lib.hid zB
  clear hWA hWB zA zB
  have HPB := Lib.hid (show parseB dir.data.toList s.data.toList = (3, []) from by
    unfold parseB
    rw [hd, if_neg (by simp), if_pos (by rw [Array.length_toList]; exact hs)])
  have x01 := X01.out
  have x02 := X02.out
  have hbw := HB0.out
  have e1 := x01.cell
  have f1 := x01.frozen
  have e2 := x02.cell
  have f2 := x02.frozen
  clear hd hs
  go_enter_defers Tryd.func16, Tryd.ntmps16
  go_upto_region 1 with fail
  rw [HWA.out, HWB.out]
  go_wp2_with fail
  have x1 := x01.set (.slice none 0 0)
  have x2 : Boxed (WB.setCell ⟨w.heap.size, 0, none⟩ (.slice none 0 0)) (w.heap.size + 1) 27 (.int .i64 0) := (heap_setCell_other _ ⟨w.heap.size, 0, none⟩ (w.heap.size + 1) _ (by show w.heap.size + 1 ≠ w.heap.size; omega)).trans x02
  have y1 : Boxed ((WB.setCell ⟨w.heap.size, 0, none⟩ (.slice none 0 0)).setCell ⟨w.heap.size + 1, 0, none⟩ (.int .i64 3)) w.heap.size 26 (.slice none 0 0) := (heap_setCell_other _ ⟨w.heap.size + 1, 0, none⟩ w.heap.size _ (by show w.heap.size ≠ w.heap.size + 1; omega)).trans x1
  have y2 := x2.set (.int .i64 3)
  have c5 := y1.cell
  have c7 := y2.cell
  refine ⟨.tuple #[.slice none 0 0, .int .i64 3], by simp [results, Tryd.f16, go_sem, c5, c7], ?_⟩
  exact ⟨none, 0, [], by rw [HPB.out]; rfl, TgsAt.nil0 _, (fun _ => rfl), (fun x hx => by cases hx), by rw [HPB.out]; rfl, (hbw.setCell (p := ⟨w.heap.size, 0, none⟩) (Nat.le_refl _) _).setCell (p := ⟨w.heap.size + 1, 0, none⟩) (Nat.le_succ _) _⟩
theorem bparseT_any (dir s : ByteArray) (w : World) (hdz : dir.size ≤ 100000) (hm : MaxOk w) :
    Calls Tryd.prog 16 #[.string dir, .string s] w (BdPostT (parseB dir.data.toList s.data.toList) w) := by
  by_cases hs : s.size ≤ 16384
  · cases hd : dir.data.toList.isEmpty with
    | true => exact bparse_good dir s w hd hs hm
    | false =>
      cases hr : rightB dir.data.toList with
      | true => exact bparse_right dir s w hd hdz hr hs hm
      | false => exact bparse_bad dir s w hd hdz hr hm
  · cases hd : dir.data.toList.isEmpty with
    | true => exact bparse_longE dir s w hd (by omega) hm
    | false =>
      cases hr : rightB dir.data.toList with
      | true => exact bparse_longR dir s w hd hdz hr (by omega) hm
      | false => exact bparse_bad dir s w hd hdz hr hm
theorem bparse_any (dir s : ByteArray) (w : World) (hdz : dir.size ≤ 100000) (hm : MaxOk w) :
    Calls Tryd.prog 16 #[.string dir, .string s] w (BdPost (parseB dir.data.toList s.data.toList) w) :=
  (bparseT_any dir s w hdz hm).mono fun _ _ h => h.plain
end Go.Proofs.YtckpojkbcbogbaaDoor
