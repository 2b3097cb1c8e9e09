/-
  The contract of the document's own Reach.
-/
import Derived.Test.YteigepblocbnlaaGpRefRight
import Derived.Test.YteigepblocbnlaaGpLawT
import Derived.Deep.LoopGhost
namespace Go.Proofs.Yteigepblocbnlaa.Gp
open Go Go.RowKit Go.Shelf Go.Proofs
attribute [local go_sem] Oper.semAt_some

/-- Where one has come to. -/
def on (b : List Bool) (x : Nat) : Bool := b.getD x false
theorem on_set {b : List Bool} {v x : Nat} (h : v < b.length) : on (b.set v true) x = (on b x || decide (x = v)) := by
  unfold on
  by_cases e : x = v
  · subst e; simp [List.getD, h]
  · have hne : v ≠ x := fun e' => e e'.symm
    simp [List.getD, List.getElem?_set_ne hne, e]
theorem on_get {b : List Bool} {x : Nat} (h : x < b.length) : b[x]? = some (on b x) := by unfold on; rw [List.getD_eq_getElem?_getD, List.getElem?_eq_getElem h]; rfl
theorem count_on {b : List Bool} {v : Nat} (h : v < b.length) (hv : on b v = false) : (b.set v true).count false + 1 = b.count false := by
  refine count_set ?_
  unfold been
  have := on_get h
  rw [hv] at this
  rw [List.getD_eq_getElem?_getD, this]; rfl
/-- All that is come to is come to from f. -/
def Sound (N : Nat) (m : List EN) (f : Nat) (b : List Bool) : Prop := b.length = N ∧ on b f = true ∧ ∀ x, on b x = true → Rch (adjT N m) N f x
/-- Behind k edges. -/
structure Inn (N : Nat) (m : List EN) (f : Nat) (b0 b : List Bool) (more : Bool) (k : Nat) : Prop where
  ok : Sound N m f b
  same : more = false → b = b0 ∧ ∀ j e, j < k → m[j]? = some e → on b e.1 = true → on b e.2 = true
  fewer : more = true → b.count false < b0.count false
theorem Inn.start {N : Nat} {m : List EN} {f : Nat} {b : List Bool} (h : Sound N m f b) : Inn N m f b b false 0 := ⟨h, fun _ => ⟨rfl, fun _ _ hj => absurd hj (Nat.not_lt_zero _)⟩, fun h => by cases h⟩
theorem Inn.no {N : Nat} {m : List EN} {f : Nat} {b0 b : List Bool} {more : Bool} {k : Nat} {e : EN} (h : Inn N m f b0 b more k) (he : m[k]? = some e) (hno : on b e.1 = false ∨ on b e.2 = true) : Inn N m f b0 b more (k + 1) :=
  ⟨h.ok, fun hm => ⟨(h.same hm).1, fun j e' hj he' h1 => by
    rcases Nat.lt_or_ge j k with hlt | hge
    · exact (h.same hm).2 j e' hlt he' h1
    · obtain rfl : j = k := by omega
      rw [he] at he'; cases he'
      rcases hno with h2 | h2
      · rw [h2] at h1; cases h1
      · exact h2⟩, h.fewer⟩
theorem Inn.yes {N : Nat} {m : List EN} {f : Nat} {b0 b : List Bool} {more : Bool} {k : Nat} {e : EN} (hm : ∀ e ∈ m, e.1 < N ∧ e.2 < N) (h : Inn N m f b0 b more k) (he : m[k]? = some e) (h1 : on b e.1 = true) (h2 : on b e.2 = false) : Inn N m f b0 (b.set e.2 true) true (k + 1) := by
  have hl := h.ok.1
  have hem := hm e (List.mem_of_getElem? he)
  have hc := count_on (b := b) (v := e.2) (by omega) h2
  refine ⟨⟨by rw [List.length_set]; exact hl, ?_, fun x hx => ?_⟩, (fun h => by cases h), fun _ => ?_⟩
  · rw [on_set (by omega), h.ok.2.1]; rfl
  · rw [on_set (by omega)] at hx
    simp only [Bool.or_eq_true, decide_eq_true_eq] at hx
    rcases hx with hx | rfl
    · exact h.ok.2.2 x hx
    · exact Wy.trans (h.ok.2.2 e.1 h1) (Rch.edge hem.1 hem.2 ((adj_iff hm _ _).2 (List.mem_of_getElem? he)))
  · cases hmo : more with
    | true => have := h.fewer hmo; omega
    | false => have := (h.same hmo).1; rw [this] at hc ⊢; omega
theorem Inn.done {N : Nat} {m : List EN} {f : Nat} {b0 b : List Bool} (hm : ∀ e ∈ m, e.1 < N ∧ e.2 < N) (hf : f < N) (h : Inn N m f b0 b false m.length) : b = RC N m f := by
  have closed : ∀ x y, Rch (adjT N m) N x y → on b x = true → on b y = true := fun x y w =>
    Rch.ind (P := fun x y => on b x = true → on b y = true) (fun _ _ h => h) (fun x y z _ _ e _ ih hx => by
      obtain ⟨j, hj⟩ := List.mem_iff_getElem?.1 ((adj_iff hm x y).1 e)
      exact ih ((h.same rfl).2 j (x, y) (List.getElem?_eq_some_iff.1 hj).1 hj hx)) w
  apply List.ext_getElem?
  intro i
  by_cases hi : i < N
  · obtain ⟨r, hr, ir⟩ := RC_rch (N := N) (m := m) (x := f) (y := i) hf hi
    rw [hr, on_get (by rw [h.ok.1]; exact hi)]
    congr 1
    rw [Bool.eq_iff_iff, ir]
    exact ⟨h.ok.2.2 i, fun w => closed f i w h.ok.2.1⟩
  · rw [List.getElem?_eq_none (by rw [h.ok.1]; omega), List.getElem?_eq_none (by rw [RC_length]; omega)]

set_option maxRecDepth 100000 in
set_option maxHeartbeats 16000000 in
theorem refreach_any (N f : Nat) (A : Option Addr) (c : Nat) (m : List EN) (w : World) (hl : EdgesAt w A (castE m)) (hm2 : m.length ≤ 100000) (hN : N ≤ 2000) (hm : ∀ e ∈ m, e.1 < N ∧ e.2 < N) (hrt : rightB N (castE m) = true) (hf : f < N) :
    Calls Try.prog 14 #[.int .i64 N, .int .i64 f, .slice A m.length c] w fun e w' => ∃ g, e = .returned (.slice (some ⟨g, 0, none⟩) N N) ∧ w'.heap[g]? = some (.cells (cellsB (RC N m f)) 4 (0, 0)) ∧ Below w.heap.size w w' ∧ w.heap.size ≤ g := by
  have hrr := refright_any N A c (castE m) w hl (by rw [castE_length]; omega)
  rw [hrt, castE_length] at hrr
  have HRR := Lib.hid hrr
  have HL := Lib.hid hl
  obtain ⟨M, hM⟩ : ∃ M, m.length = M := ⟨_, rfl⟩
  rw [hM] at HRR hm2 ⊢
  have HM := Lib.hid hM
  have HMM := Lib.hid hm
  have hmk := make_bools w N (by omega)
  have k1 : decide ((f : Int) < 0) = false := decide_eq_false (by omega)
  have k1' : ¬ (f : Int) < 0 := by omega
  have k2 : decide (N ≤ f) = false := decide_eq_false (by omega)
  have k3 : (N ≤ f) = False := eq_false (by omega)
  have k4 : (f : Int) < (N : Int) := by omega
  have wf : IntKind.i64.wrap (f : Int) = (f : Int) := IntWalk.i64_in _ (by omega)
  obtain ⟨w2, hw2⟩ : ∃ w2, w.alloc (.cells (cellsB (List.replicate N false)) 4) = w2 := ⟨_, rfl⟩
  have hs2 : w2.heap.size = w.heap.size + 1 := by rw [← hw2]; simp
  have hb2 : Below w.heap.size w w2 := by rw [← hw2]; exact (Below.refl _ _).alloc (Nat.le_refl _) _
  have x1 : w2.heap[w.heap.size]? = some (.cells (cellsB (List.replicate N false)) 4 (0, 0)) := by rw [← hw2]; exact World.alloc_heap_new w _
  have c1 : w2.cell? ⟨w.heap.size, f, none⟩ = some (.bool false) := (cell_of_row _ _ _ _ _ _ x1).trans (cellsB_get (by simp [hf]))
  have f1 : w2.frozen? ⟨w.heap.size, f, none⟩ = false := frozen_of_row _ _ _ _ _ x1
  have X1 := Lib.hid x1
  have HB2 := Lib.hid hb2
  clear hl hrr hM hm hb2 x1 hs2
  go_enter Try.func14, Try.ntmps14
  go_wp2_with fail
  refine HRR.out.mono ?_
  rintro e w1 ⟨rfl, hw1⟩
  have hw1 := hw1.symm; subst hw1
  go_wp2_with fail
  clear c1 f1 hmk k1 k1' k2 k3 k4 wf
  have hx3 : (w2.setCell ⟨w.heap.size, f, none⟩ (.bool true)).heap[w.heap.size]? = some (.cells (cellsB ((List.replicate N false).set f true)) 4 (0, 0)) := by
    rw [heap_setCell_same _ _ _ _ _ _ X1.out, cellsB_set]
  have hb3 : Below w.heap.size w (w2.setCell ⟨w.heap.size, f, none⟩ (.bool true)) := HB2.out.setCell (Nat.le_refl _) _
  have hso : Sound N m f ((List.replicate N false).set f true) := by
    refine ⟨by simp, by rw [on_set (by simpa using hf)]; simp, fun x hx => ?_⟩
    rw [on_set (by simpa using hf)] at hx
    have h0 : on (List.replicate N false) x = false := by unfold on; rw [List.getD_eq_getElem?_getD, List.getElem?_replicate]; split <;> rfl
    rw [h0] at hx
    have : x = f := by simpa using hx
    subst this; exact .refl hf
  have HX3 := Lib.hid hx3
  have HB3 := Lib.hid hb3
  have HSO := Lib.hid hso
  clear hx3 hb3 hso
  go_loopg [8] (2 * ((List.replicate N false).set f true).count false + 1) (fun gk s wr => ∃ (out : List Bool) (more : Bool), s = .bool more ∧ Hid (2 * out.count false + (if more then 1 else 0) = gk) ∧ Hid (Sound N m f out ∧ (more = false → out = RC N m f)) ∧ Hid (wr.heap[w.heap.size]? = some (.cells (cellsB out) 4 (0, 0))) ∧ Hid (Below w.heap.size w wr))
  case atStart => exact ⟨_, true, rfl, rfl, ⟨HSO.out, fun h => by cases h⟩, HX3.out, HB3.out⟩
  case round =>
    obtain ⟨out, more, rfl, HG, HO, HX, HB⟩ := hrel
    cases more with
    | false =>
      go_wp2_with fail
      go_ret
      exact ⟨_, rfl, by rw [← HO.out.2 (by first | rfl | trivial)]; exact HX.out, HB.out, Nat.le_refl _⟩
    | true =>
      go_wp2_with fail
      go_loopw [8, 9] (fun s y wr => ∃ (j : Nat) (more : Bool) (b : List Bool), j ≤ M ∧ s = .bool more ∧ y = .int .i64 j ∧ Hid (Inn N m f out b more j) ∧ Hid (wr.heap[w.heap.size]? = some (.cells (cellsB b) 4 (0, 0))) ∧ Hid (Below w.heap.size w wr)) (fun _ y _ => M - (intOf y).toNat)
      case atStart => exact ⟨0, false, out, Nat.zero_le _, rfl, rfl, Inn.start HO.out.1, HX.out, HB.out⟩
      case round =>
        obtain ⟨j, more, b, hj, rfl, rfl, HI, HX5, HB5⟩ := hrel
        by_cases h1 : j < M
        · obtain ⟨⟨u, v⟩, he⟩ : ∃ e, m[j]? = some e := ⟨_, List.getElem?_eq_getElem (by have := HM.out; omega)⟩
          obtain ⟨g, o, hA, hc⟩ := (HL.out.below HB5.out) (by rw [castE_length]; have := HM.out; omega)
          obtain ⟨d1, d2⟩ := hc j _ (castE_get he)
          have huv := HMM.out _ (List.mem_of_getElem? he)
          have hbl := HI.out.ok.1
          obtain ⟨bu, hbu⟩ : ∃ bu, on b u = bu := ⟨_, rfl⟩
          obtain ⟨bv, hbv⟩ : ∃ bv, on b v = bv := ⟨_, rfl⟩
          have c1 : wr.cell? ⟨w.heap.size, u, none⟩ = some (.bool bu) := (cell_of_row _ _ _ _ _ _ HX5.out).trans (cellsB_get (by rw [on_get (by omega), hbu]))
          have c2 : wr.cell? ⟨w.heap.size, v, none⟩ = some (.bool bv) := (cell_of_row _ _ _ _ _ _ HX5.out).trans (cellsB_get (by rw [on_get (by omega), hbv]))
          have f2 : wr.frozen? ⟨w.heap.size, v, none⟩ = false := frozen_of_row _ _ _ _ _ HX5.out
          have HE := Lib.hid he
          have HBU := Lib.hid hbu
          have HBV := Lib.hid hbv
          have q1 : (j : Int) < (M : Int) := by omega
          have q2 : (u : Int) < (N : Int) := by omega
          have q3 : (v : Int) < (N : Int) := by omega
          have wj : IntKind.i64.wrap (j : Int) = (j : Int) := IntWalk.i64_in _ (by omega)
          have wu : IntKind.i64.wrap (u : Int) = (u : Int) := IntWalk.i64_in _ (by omega)
          have wv : IntKind.i64.wrap (v : Int) = (v : Int) := IntWalk.i64_in _ (by omega)
          rw [hA]
          clear he hA hc huv hbl hbu hbv
          cases bu with
          | false =>
            go_wp2_with fail
            go_roundw
            case rel => exact ⟨j + 1, more, b, by omega, rfl, by go_num, HI.out.no HE.out (.inl HBU.out), HX5.out, HB5.out⟩
            case measure => simp [intOf]; omega
          | true =>
            cases bv with
            | true =>
              go_wp2_with fail
              go_roundw
              case rel => exact ⟨j + 1, more, b, by omega, rfl, by go_num, HI.out.no HE.out (.inr HBV.out), HX5.out, HB5.out⟩
              case measure => simp [intOf]; omega
            | false =>
              go_wp2_with fail
              go_roundw
              case rel =>
                refine ⟨j + 1, true, b.set v true, by omega, rfl, by go_num, HI.out.yes HMM.out HE.out HBU.out HBV.out, ?_, HB5.out.setCell (Nat.le_refl _) _⟩
                rw [← cellsB_set]; exact heap_setCell_same _ _ _ _ _ _ HX5.out
              case measure => simp [intOf]; omega
        · obtain rfl : j = M := by omega
          have hend : more = false → b = RC N m f := fun h => by subst h; exact Inn.done HMM.out hf (by have := HI.out; rwa [← HM.out] at this)
          have hmeas : 2 * b.count false + (if more then 1 else 0) < gk := by
            have h0 := HG.out
            simp at h0
            cases more with
            | true => have := HI.out.fewer rfl; simp; omega
            | false => have := (HI.out.same rfl).1; rw [this]; simp; omega
          have HEND := Lib.hid hend
          have HME := Lib.hid hmeas
          clear hend hmeas
          go_wp2_with fail
          go_roundg (2 * b.count false + (if more then 1 else 0))
          case measure => exact HME.out
          case rel => exact ⟨b, more, rfl, rfl, ⟨HI.out.ok, HEND.out⟩, HX5.out, HB5.out⟩
end Go.Proofs.Yteigepblocbnlaa.Gp
