/-
  What slices.Insert does to a row of files of the call's own: laws of memory. · slices.Insert of one file into a row of files of the call's own. · slices.Insert of one file into a row of files of the call's own, ahead of its end, where there is room. · slices.Insert of one file into a row of files of the call's own, ahead of its end, where there is no room; all three roads.
-/
import Derived.Test.YtffhfllikamccaaGreatDoorTOwn
import Derived.Lib.Overlaps
import Derived.Lib.AppendZerosOnto
import Derived.Laws.Externs
import Derived.Shelf.Spec.SlicesInsert
import Derived.Test.YtffhfllikamccaaGreatDoorTDropAll
import Derived.Deep.RegionLaw
import Derived.Deep.QuietTactic
import Derived.BigQuiet
import Derived.Maps.AppendAt
namespace Go.Proofs.YtffhfllikamccaaGreatDoor
open Go Go.RowKit Go.Shelf Go.Proofs

/-- Cells stored within a row. -/
theorem own_setCells {base e size g n cap : Nat} : ∀ (vs : List Value) (o : Nat) (W : World) (xs : List Value), W.ownsRow base e size (.slice (some ⟨g, 0, none⟩) n cap) n xs → o + vs.length ≤ xs.length →
    (W.setCells g o vs).ownsRow base e size (.slice (some ⟨g, 0, none⟩) n cap) n (xs.take o ++ vs ++ xs.drop (o + vs.length))
  | [], o, W, xs, h, _ => by
    show W.ownsRow _ _ _ _ _ _
    simpa using h
  | u :: vs, o, W, xs, h, hl => by
    simp only [List.length_cons] at hl
    have h1 := (World.ownsRow.stored h o u).1
    have ih := own_setCells vs (o + 1) _ _ h1 (by rw [List.length_set]; omega)
    rw [World.setCells]
    have e1 : (xs.set o u).take (o + 1) = xs.take o ++ [u] := by
      rw [List.take_succ_eq_append_getElem (by rw [List.length_set]; omega), List.take_set_of_le (Nat.le_refl o)]; simp
    have e2 : (xs.set o u).drop (o + 1 + vs.length) = xs.drop (o + (u :: vs).length) := by
      rw [List.drop_set_of_lt (by omega)]; simp only [List.length_cons]; congr 1; omega
    rw [e1, e2] at ih
    simpa using ih
/-- A row, one element longer, where there is room. -/
theorem own_more {base : Nat} {W : World} {g n cap : Nat} {xs : List Value} {e size : Nat} (h : W.ownsRow base e size (.slice (some ⟨g, 0, none⟩) n cap) n xs) (hr : n + 1 ≤ cap) :
    ∃ ys, W.ownsRow base e size (.slice (some ⟨g, 0, none⟩) (n + 1) cap) (n + 1) ys ∧ ys.take (n * size) = xs ∧ ys.length = (n + 1) * size := by
  rcases h.2 with ⟨h0, _⟩ | ⟨g', cap', cur, h0, h1, h2, h3, h4, h5, h6⟩
  · cases h0
  · cases h0
    have hl : (n + 1) * size ≤ cur.size := by rw [h5]; exact Nat.mul_le_mul_right _ hr
    have hy : (cur.toList.take ((n + 1) * size)).length = (n + 1) * size := by rw [List.length_take, Array.length_toList]; omega
    refine ⟨cur.toList.take ((n + 1) * size), ⟨hy, .inr ⟨g, cap, cur, rfl, h1, h2, hr, h4, h5, rfl⟩⟩, ?_, hy⟩
    rw [List.take_take, ← h6]
    congr 1
    have : n * size ≤ (n + 1) * size := Nat.mul_le_mul_right _ (by omega)
    omega
def insX (l : List FX) (i : Nat) (x : FX) : List FX := l.take i ++ x :: l.drop i
theorem insX_length (l : List FX) (i : Nat) (x : FX) (hi : i ≤ l.length) : (insX l i x).length = l.length + 1 := by unfold insX; simp; omega
theorem fcells_drop (l : List FX) (k : Nat) : (fcells l).drop (k * 2) = fcells (l.drop k) := by
  have h := fcells_append (l.take k) (l.drop k)
  rw [List.take_append_drop] at h
  by_cases hk : k ≤ l.length
  · rw [h, List.drop_append_of_le_length (by rw [fcells_length, List.length_take]; omega), List.drop_of_length_le (by rw [fcells_length, List.length_take]; omega), List.nil_append]
  · rw [List.drop_of_length_le (by rw [fcells_length]; omega), List.drop_of_length_le (by omega)]; rfl
theorem fcells_ins (l : List FX) (i : Nat) (x : FX) : fcells (insX l i x) = (fcells l).take (i * 2) ++ x.cs ++ fcells (l.drop i) := by
  unfold insX
  rw [fcells_append, fcells_take, List.append_assoc]; rfl
/-- The one behind the other: what stood from i on, one further; then x. -/
theorem own_shift {base : Nat} {W : World} {g n cap : Nat} {l : List FX} {x : FX} {ys : List Value} (hn : n = l.length) {i : Nat} (hi : i ≤ n) (h : W.ownsRow base 65 2 (.slice (some ⟨g, 0, none⟩) (n + 1) cap) (n + 1) ys) (hy : ys.take (i * 2) = (fcells l).take (i * 2)) (hl : ys.length = (n + 1) * 2) :
    FilesOwn base ((W.setCells g ((i + 1) * 2) (fcells (l.drop i))).setCells g (i * 2) x.cs) (.slice (some ⟨g, 0, none⟩) (n + 1) cap) (insX l i x) := by
  subst hn
  have e0 : (fcells (l.drop i)).length = (l.length - i) * 2 := by rw [fcells_length, List.length_drop]
  have h1 := own_setCells (fcells (l.drop i)) ((i + 1) * 2) W ys h (by rw [e0, hl]; omega)
  have h2 := own_setCells x.cs (i * 2) _ _ h1 (by
    simp only [List.length_append, List.length_take, List.length_drop, e0, hl]
    show i * 2 + 2 ≤ _
    omega)
  unfold FilesOwn
  rw [insX_length l i x hi, fcells_ins]
  have e3 : ys.drop ((i + 1) * 2 + (fcells (l.drop i)).length) = [] := List.drop_of_length_le (by rw [e0, hl]; omega)
  rw [e3, List.append_nil] at h2
  have e1 : (ys.take ((i + 1) * 2) ++ fcells (l.drop i)).take (i * 2) = ys.take (i * 2) := by
    rw [List.take_append_of_le_length (by rw [List.length_take, hl]; omega), List.take_take]; congr 1; omega
  have e2 : (ys.take ((i + 1) * 2) ++ fcells (l.drop i)).drop (i * 2 + x.cs.length) = fcells (l.drop i) := by
    have : (ys.take ((i + 1) * 2)).length = i * 2 + x.cs.length := by rw [List.length_take, hl]; show min _ _ = i * 2 + 2; omega
    rw [← this, List.drop_left]
  rw [e1, e2, hy] at h2
  exact h2
/-- x, then what stood from i on. -/
theorem own_laid {base : Nat} {W : World} {g n cap : Nat} {l : List FX} {x : FX} {ys : List Value} (hn : n = l.length) {i : Nat} (hi : i ≤ n) (h : W.ownsRow base 65 2 (.slice (some ⟨g, 0, none⟩) (n + 1) cap) (n + 1) ys) (hy : ys.take (i * 2) = (fcells l).take (i * 2)) (hl : ys.length = (n + 1) * 2) :
    FilesOwn base ((W.setCells g (i * 2) x.cs).setCells g ((i + 1) * 2) (fcells (l.drop i))) (.slice (some ⟨g, 0, none⟩) (n + 1) cap) (insX l i x) := by
  subst hn
  have e0 : (fcells (l.drop i)).length = (l.length - i) * 2 := by rw [fcells_length, List.length_drop]
  have hx : x.cs.length = 2 := rfl
  have h1 := own_setCells x.cs (i * 2) W ys h (by rw [hx, hl]; omega)
  have h2 := own_setCells (fcells (l.drop i)) ((i + 1) * 2) _ _ h1 (by
    simp only [List.length_append, List.length_take, List.length_drop, hx, hl, e0]
    omega)
  unfold FilesOwn
  rw [insX_length l i x hi, fcells_ins]
  have hf : (ys.take (i * 2) ++ x.cs).length = (i + 1) * 2 := by rw [List.length_append, List.length_take, hl, hx]; omega
  have e1 : (ys.take (i * 2) ++ x.cs ++ ys.drop (i * 2 + x.cs.length)).take ((i + 1) * 2) = ys.take (i * 2) ++ x.cs := by rw [← hf, List.take_left]
  have e2 : (ys.take (i * 2) ++ x.cs ++ ys.drop (i * 2 + x.cs.length)).drop ((i + 1) * 2 + (fcells (l.drop i)).length) = [] := List.drop_of_length_le (by
    simp only [List.length_append, List.length_take, List.length_drop, hx, hl, e0]; omega)
  rw [e1, e2, List.append_nil, hy] at h2
  exact h2

theorem file_info : (Tryz.prog.info? 65).map (fun i => (i.zero, i.size, i.bytes)) = some (some (.agg #[.string ⟨#[]⟩, .slice none 0 0]), 2, 40) := by kernel_rfl
/-- 'copy' between two slices of files: all is read before anything is written. -/
theorem run_copy_files (w : World) (dT sT ty : TypeId) (hu : Tryz.prog.underlying dT = some (.slice 65)) (b o dLen dCap : Nat) (a : Addr) (sLen sCap k : Nat) (cs : List Value) (hn : k = Nat.min sLen dLen) (hk : cs.length = k * 2)
    (hsrc : ∀ j v, cs[j]? = some v → w.cell? (a.add j) = some v) (hc : ∀ j, j < cs.length → (w.cell? ⟨b, o + j, none⟩).isSome = true) (hf : ∀ j, j < cs.length → w.frozen? ⟨b, o + j, none⟩ = false) (h1 : ∀ v ∈ cs, v.oneCell' = true) :
    (Builtin.copy_ #[dT, sT] ty #[.slice (some ⟨b, o, none⟩) dLen dCap, .slice (some a) sLen sCap]).run Tryz.prog w = .ok (goInt k) (w.setCells b o cs) := by
  have hl := run_loadCells_list (P := Tryz.prog) w a cs hsrc
  have hst := run_storeCells_cells (P := Tryz.prog) b o cs 0 w (by simpa using hc) (by simpa using hf) h1
  obtain ⟨i, hi, _, hs, _⟩ := info_parts file_info
  rw [hk] at hl
  simp [Builtin.copy_, run_underlying hu, Builtin.lenOf, Builtin.firstCells, sizeOf, typeInfo, hi, hs, ← hn, hl, hst]
end Go.Proofs.YtffhfllikamccaaGreatDoor
namespace Go.Proofs.YtffhfllikamccaaGreatDoor
open Go Go.RowKit Go.Shelf Go.Proofs

def InsPost (base : Nat) (v : Value) (w : World) (l : List FX) (e : Ending) (w' : World) : Prop := ∃ v', e = .returned v' ∧ FilesOwn base w' v' l ∧ w.grownBy w' v.ownBlock
theorem FX.one {x : FX} : ∀ u ∈ x.cs, u.oneCell' = true := by
  intro u hu
  unfold FX.cs at hu
  simp only [List.mem_cons, List.mem_nil_iff, or_false] at hu
  rcases hu with rfl | rfl <;> rfl

theorem append_types (w : World) (ty : TypeId) (A B : Option Addr) (n c m d : Nat) : (Builtin.append_ #[23, 22] ty #[.slice A n c, .slice B m d]).run Tryz.prog w = (Builtin.append_ #[23, 23] ty #[.slice A n c, .slice B m d]).run Tryz.prog w := by
  simp [Builtin.append_, run_underlying Tryz.underlying23, run_underlying Tryz.underlying22]
set_option maxRecDepth 100000 in
set_option maxHeartbeats 2000000 in
theorem insert_end (base : Nat) (l : List FX) (A : Option Addr) (n c : Nat) (x : FX) (N : Nat) (w : World) (h : FilesOwn base w (.slice A n c) l) (hn : n = l.length) (hl : l.length ≤ 100000) (hbase : base ≤ w.heap.size)
    (hN : w.heap[N]? = some (Obj.cells #[.string x.p, .slice x.A x.b.length x.c] 65 (0, 0))) :
    Calls Tryz.prog 95 #[.slice A n c, .int .i64 (n : Int), .slice (some ⟨N, 0, none⟩) 1 1] w (InsPost base (.slice A n c) w (insX l n x)) := by
  obtain ⟨i0, hi, hz0, hz1, hz2⟩ := info_parts file_info
  have hcap : n ≤ c := by
    rcases h.form with ⟨h0, rfl⟩ | ⟨g, cap, cur, h0, _, _, h3, _⟩
    · cases h0; exact Nat.le_refl _
    · cases h0; exact h3
  have hins : insX l n x = l ++ [x] := by unfold insX; subst hn; simp
  have hfin : ∀ (W : World) (v' : Value), W.ownsRow base 65 2 v' (n + 1) (fcells l ++ x.cs) → FilesOwn base W v' (insX l n x) := fun W v' ho => by
    rw [hins]; unfold FilesOwn
    rw [List.length_append, fcells_append]
    subst hn; simpa [fcells, FX.cs] using ho
  have HFIN := Lib.hid hfin; clear hfin hins
  have h' : w.ownsRow base 65 2 (.slice A n c) n (fcells l) := by subst hn; exact h
  have HF := Lib.hid h'; clear h h'
  have HNN := Lib.hid hN; clear hN
  have HI := Lib.hid hi; clear hi
  have hl2 : n ≤ 100000 := by omega
  clear hn
  obtain ⟨v', w', hrun, h2, h3, _, _⟩ := run_append_own_at (P := Tryz.prog) w base 23 23 65 i0 (.agg #[.string ⟨#[]⟩, .slice none 0 0]) 2 40 Tryz.underlying23 HI.out hz0 hz1 hz2 rfl (by decide) (.slice A n c) n (fcells l) HF.out ⟨N, 0, none⟩ 1 1 x.cs rfl (fun j u hu => by
    rw [Go.WideShapes.add_plain, Nat.zero_add]
    exact (cell_of_row _ _ j _ _ _ HNN.out).trans (by simpa [FX.cs] using hu)) FX.one (by unfold maxLen; omega) (by omega) hbase
  have hrun2 := (append_types w 23 A (some ⟨N, 0, none⟩) n c 1 1).trans hrun
  have HR := Lib.hid hrun2; clear hrun2 hrun
  have H2 := Lib.hid h2; clear h2
  have H3 := Lib.hid h3; clear h3
  have hc1 : (c : Int) ≤ 9223372036854775807 := by
    rcases HF.out.2 with ⟨h0, _⟩ | ⟨g, cap, cur, h0, _, _, _, h4, _⟩
    · cases h0; omega
    · cases h0; unfold maxLen at h4; omega
  rcases Nat.lt_or_ge n c with hlt | hge
  · have hcn : ¬ c = n := by omega
    go_enter Tryz.func95, Tryz.ntmps95
    go_wp2_with (at_builtin; refine Lib.wpList_append_run _ rfl _ _ 23 22 rfl (.slice A n c) (.slice (some ⟨N, 0, none⟩) 1 1) rfl rfl v' w' HR.out ?_)
    all_goals go_ret
    all_goals exact ⟨v', rfl, HFIN.out _ _ H2.out, H3.out⟩
  · obtain rfl : c = n := by omega
    go_enter Tryz.func95, Tryz.ntmps95
    go_wp2_with (at_builtin; refine Lib.wpList_append_run _ rfl _ _ 23 22 rfl (.slice A c c) (.slice (some ⟨N, 0, none⟩) 1 1) rfl rfl v' w' HR.out ?_)
    all_goals go_ret
    all_goals exact ⟨v', rfl, HFIN.out _ _ H2.out, H3.out⟩
end Go.Proofs.YtffhfllikamccaaGreatDoor
namespace Go.Proofs.YtffhfllikamccaaGreatDoor
open Go Go.RowKit Go.Shelf Go.Proofs

theorem below_drew1 (w : World) : Below w.heap.size w w.drew := (Below.refl _ w).drew
set_option maxRecDepth 100000 in
set_option maxHeartbeats 4000000 in
theorem insert_shift (base : Nat) (l : List FX) (g n cap i : Nat) (x : FX) (N : Nat) (w : World) (h : FilesOwn base w (.slice (some ⟨g, 0, none⟩) n cap) l) (hn : n = l.length) (hl : l.length ≤ 100000) (hin : i < n) (hr : n + 1 ≤ cap) (hcm : cap ≤ 9223372036854775807) (hNg : N ≠ g)
    (hN : w.heap[N]? = some (Obj.cells #[.string x.p, .slice x.A x.b.length x.c] 65 (0, 0))) :
    Calls Tryz.prog 95 #[.slice (some ⟨g, 0, none⟩) n cap, .int .i64 (i : Int), .slice (some ⟨N, 0, none⟩) 1 1] w (InsPost base (.slice (some ⟨g, 0, none⟩) n cap) w (insX l i x)) := by
  subst hn
  have h' : w.ownsRow base 65 2 (.slice (some ⟨g, 0, none⟩) l.length cap) l.length (fcells l) := h
  obtain ⟨ys, hy1, hy2, hy3⟩ := own_more h' hr
  have hcell : ∀ j, j < (l.length + 1) * 2 → (w.cell? ⟨g, j, none⟩).isSome = true := fun j hj => by
    have := World.ownsRow.cells hy1 (g := g) rfl j (ys[j]'(by omega)) (List.getElem?_eq_getElem (by omega))
    rw [Go.WideShapes.add_plain, Nat.zero_add] at this
    rw [this]; rfl
  have hfz : ∀ j, w.frozen? ⟨g, j, none⟩ = false := fun j => h.frozen j
  have hsrc : ∀ j v, (fcells (l.drop i))[j]? = some v → w.cell? ⟨g, i * 2 + j, none⟩ = some v := fun j v hv => by
    rw [← fcells_drop, List.getElem?_drop] at hv
    have := World.ownsRow.cells h' (g := g) rfl _ v hv
    rwa [Go.WideShapes.add_plain, Nat.zero_add] at this
  have hdl : (fcells (l.drop i)).length = (l.length - i) * 2 := by rw [fcells_length, List.length_drop]
  obtain ⟨_, _, cur, hcur, _, hh, _, _, hcs⟩ := h.form.resolve_left (fun h0 => by cases h0.1)
  cases hcur
  have hsa : w.shape? N = some (65, 2) := by simp [World.shape?, hN]
  have hsb : w.shape? g = some (65, cap * 2) := by simp [World.shape?, hh, hcs]
  have hfa : w.frozen? ⟨N, 0, none⟩ = false := by simp [World.frozen?, hN]
  have hfe : w.frozen? ⟨N, 2, none⟩ = false := by simp [World.frozen?, hN]
  have hov : ∀ o lb cb, (callFunc 105 #[.slice (some ⟨N, 0, none⟩) 1 1, .slice (some ⟨g, o, none⟩) lb cb]).run Tryz.prog w = .ok (.value (.bool false)) w := fun o lb cb => by
    rw [run_callFunc_extern Tryz.func105 (by kernel_rfl) (by kernel_rfl) (by kernel_rfl) (e := Extern.SlicesOverlaps.overlaps #[22, 22] #[4]) (by kernel_rfl),
      Lib.run_overlaps_apart w 22 4 65 Tryz.underlying22 2 (fun W => by kernel_rfl) ⟨N, 0, none⟩ ⟨g, o, none⟩ 1 1 lb cb hNg 65 65 2 (cap * 2) hsa hsb (by omega) hfa hfe]
    rfl
  have q1 : ((i : Nat) : Int) < (l.length : Int) := by omega
  have q2 : ¬ ((i : Int) = (l.length : Int)) := by omega
  have q3 : ((i : Int) == (l.length : Int)) = false := by rw [beq_eq_false_iff_ne]; exact q2
  have q4 : ¬ cap = i := by omega
  have q5 : ¬ cap = i + 1 := by omega
  clear hsa hsb hfa hfe hh hcs
  have HF := Lib.hid h; clear h h'
  have HY1 := Lib.hid hy1; clear hy1
  have HY2 := Lib.hid hy2; clear hy2
  have HY3 := Lib.hid hy3; clear hy3
  have HC := Lib.hid hcell; clear hcell
  have HFZ := Lib.hid hfz; clear hfz
  have HS := Lib.hid hsrc; clear hsrc
  have HDL := Lib.hid hdl; clear hdl
  have HN := Lib.hid hN; clear hN
  go_enter Tryz.func95, Tryz.ntmps95
  go_wp2_with (simp only [hov])
  have hw1 : IntKind.i64.wrap ((i : Int) + 1) = (i : Int) + 1 := IntWalk.i64_in _ (by omega)
  have htn : ((i : Int) + 1).toNat = i + 1 := by omega
  have hb1 : (0 : Int) ≤ (i : Int) + 1 := by omega
  have hb3 : (i : Int) ≤ (l.length : Int) + 1 := by omega
  have hb5 : (i : Int) + 1 ≤ (l.length : Int) + 1 := by omega
  have hcp1 : ∀ ty dc sc, (Builtin.copy_ #[23, 23] ty #[.slice (some ⟨g, (i + 1) * 2, none⟩) (l.length - i) dc, .slice (some ⟨g, i * 2, none⟩) (l.length + 1 - i) sc]).run Tryz.prog w.drew = .ok (goInt ((l.length - i : Nat) : Int)) (w.drew.setCells g ((i + 1) * 2) (fcells (l.drop i))) := fun ty dc sc => by
    refine run_copy_files w.drew _ _ ty Tryz.underlying23 g ((i + 1) * 2) _ dc ⟨g, i * 2, none⟩ _ sc (l.length - i) (fcells (l.drop i)) (by simp only [Nat.min_def]; split <;> omega) HDL.out (fun j v hv => by rw [Go.WideShapes.add_plain]; exact HS.out j v hv)
      (fun j hj => HC.out _ (by rw [HDL.out] at hj; omega)) (fun j _ => HFZ.out _) (fcells_one _)
  have hcp2 : ∀ ty dc, (Builtin.copy_ #[23, 22] ty #[.slice (some ⟨g, i * 2, none⟩) (l.length + 1 - i) dc, .slice (some ⟨N, 0, none⟩) 1 1]).run Tryz.prog (w.drew.setCells g ((i + 1) * 2) (fcells (l.drop i))) = .ok (goInt ((1 : Nat) : Int)) ((w.drew.setCells g ((i + 1) * 2) (fcells (l.drop i))).setCells g (i * 2) x.cs) := fun ty dc => by
    refine run_copy_files _ _ _ ty Tryz.underlying23 g (i * 2) _ dc ⟨N, 0, none⟩ 1 1 1 x.cs (by simp only [Nat.min_def]; split <;> omega) rfl (fun j v hv => by
        rw [Go.WideShapes.add_plain, Nat.zero_add, World.cell?_setCells_out g _ _ _ _ (fun h _ => absurd h hNg)]
        exact (cell_of_row w _ j _ _ _ HN.out).trans (by simpa [FX.cs] using hv))
      (fun j hj => isSome_setCells g (fcells (l.drop i)) ((i + 1) * 2) w.drew (fun q hq => HC.out ((i + 1) * 2 + q) (by rw [HDL.out] at hq; omega)) (i * 2 + j) (HC.out (i * 2 + j) (by have : j < 2 := hj; omega)))
      (fun j _ => by rw [World.frozen?_setCells]; exact HFZ.out _) FX.one
  have hfin := own_shift (W := w.drew) (x := x) (cap := cap) rfl (Nat.le_of_lt hin) HY1.out (by
    have := HY2.out
    rw [← this, List.take_take]
    congr 1; omega) HY3.out
  have hgr : w.grownBy ((w.drew.setCells g ((i + 1) * 2) (fcells (l.drop i))).setCells g (i * 2) x.cs) (some g) :=
    grown_trans2 (grown_trans2 (grownN (below_drew1 w) _) (grown_setCells _ _) (.inl rfl)) (grown_setCells _ _) (.inl rfl)
  have HFIN := Lib.hid hfin; clear hfin
  have HGR := Lib.hid hgr; clear hgr
  obtain ⟨W1, hW1⟩ : ∃ W1, w.drew.setCells g ((i + 1) * 2) (fcells (l.drop i)) = W1 := ⟨_, rfl⟩
  rw [hW1] at hcp1 hcp2
  have HW1 := Lib.hid hW1; clear hW1
  go_region_law (refine step_copy_runI rfl _ _ 23 23 rfl _ _ (by simp [Act.eval, Act.put]) (by simp [Act.eval, Act.put]) (hcp1 _ _ _) ?_)
  go_wp2_with (at_builtin; refine wpList_copy_runI _ rfl _ _ 23 22 rfl _ _ rfl rfl (hcp2 _ _) ?_)
  go_ret
  rw [← HW1.out]
  exact ⟨_, rfl, HFIN.out, HGR.out⟩
end Go.Proofs.YtffhfllikamccaaGreatDoor
namespace Go.Proofs.YtffhfllikamccaaGreatDoor
open Go Go.RowKit Go.Shelf Go.Proofs

set_option maxRecDepth 100000 in
set_option maxHeartbeats 4000000 in
theorem insert_grow (base : Nat) (l : List FX) (g cap i : Nat) (x : FX) (N : Nat) (w : World) (h : FilesOwn base w (.slice (some ⟨g, 0, none⟩) l.length cap) l) (hl : l.length ≤ 100000) (hin : i < l.length) (hlc : l.length ≤ cap) (hr : cap < l.length + 1) (hbase : base ≤ w.heap.size)
    (hN : w.heap[N]? = some (Obj.cells #[.string x.p, .slice x.A x.b.length x.c] 65 (0, 0))) :
    Calls Tryz.prog 95 #[.slice (some ⟨g, 0, none⟩) l.length cap, .int .i64 (i : Int), .slice (some ⟨N, 0, none⟩) 1 1] w (InsPost base (.slice (some ⟨g, 0, none⟩) l.length cap) w (insX l i x)) := by
  obtain ⟨i0, hi0, hz0, hz1, hz2⟩ := info_parts file_info
  have h' : w.ownsRow base 65 2 (.slice (some ⟨g, 0, none⟩) l.length cap) l.length (fcells l) := h
  have hgl : g < w.heap.size := by
    obtain ⟨_, cur, hh⟩ := h.row (g := g) rfl
    exact (Array.getElem?_eq_some_iff.1 hh).1
  have hNl : N < w.heap.size := (Array.getElem?_eq_some_iff.1 hN).1
  have hsrc : ∀ j v, (fcells l)[j]? = some v → w.cell? ⟨g, j, none⟩ = some v := fun j v hv => by
    have := World.ownsRow.cells h' (g := g) rfl _ v hv
    rwa [Go.WideShapes.add_plain, Nat.zero_add] at this
  have hdl : (fcells (l.drop i)).length = (l.length - i) * 2 := by rw [fcells_length, List.length_drop]
  have htl : (fcells (l.take i)).length = i * 2 := by rw [fcells_length, List.length_take]; omega
  have hold : (Builtin.firstCells i0.size i (.slice (some ⟨g, 0, none⟩) i cap)).run Tryz.prog w.drew = .ok (fcells (l.take i)).toArray w.drew := by
    rw [hz1]
    refine run_firstCells_some w.drew 2 i ⟨g, 0, none⟩ i cap _ htl (fun j v hv => ?_)
    rw [Go.WideShapes.add_plain, Nat.zero_add]
    refine hsrc j v ?_
    rw [← fcells_take, List.getElem?_take] at hv
    split at hv
    · exact hv
    · cases hv
  obtain ⟨G, hG⟩ : ∃ G, grownCap w (l.length + 1) cap 65 = G := ⟨_, rfl⟩
  have hGn : l.length + 1 ≤ G := by rw [← hG]; exact grownCap_ge w _ _ _
  have hG63 : G ≤ maxLen := by rw [← hG]; exact grownCap_le_maxLen w _ _ _ (by unfold maxLen; omega)
  obtain ⟨ROW, hROW⟩ : ∃ ROW : Array Value, (fcells (l.take i)).toArray ++ Builtin.zeroCells (Value.agg #[.string ⟨#[]⟩, .slice none 0 0]).cells (l.length + 1 - i) ++ Builtin.zeroCells (Value.agg #[.string ⟨#[]⟩, .slice none 0 0]).cells (G - (l.length + 1)) = ROW := ⟨_, rfl⟩
  have hRs : ROW.size = G * 2 := by
    rw [← hROW, Array.size_append, Array.size_append, size_zeroCells, size_zeroCells, List.size_toArray, htl]
    show i * 2 + (l.length + 1 - i) * 2 + (G - (l.length + 1)) * 2 = G * 2
    omega
  have hRt : ROW.toList.take (i * 2) = fcells (l.take i) := by
    rw [← hROW]
    simp only [Array.toList_append, List.append_assoc]
    rw [List.take_append_of_le_length (by simp [htl]), List.take_of_length_le (by simp [htl])]
  have hrz : ∀ ty, (Builtin.append_ #[23, 3] ty #[.slice (some ⟨g, 0, none⟩) i cap, .int .i64 ((l.length : Int) + 1 - (i : Int))]).run Tryz.prog w = .ok (.slice (some ⟨w.heap.size, 0, none⟩) (l.length + 1) G) (w.drew.alloc (.cells ROW 65)) := fun ty => by
    have hik : i + (l.length + 1 - i) = l.length + 1 := by omega
    have hh := Lib.run_append_grow_zeros (P := Tryz.prog) w 23 3 ty 65 i0 _ .i64 .i64 Tryz.underlying23 Tryz.underlying3 hi0 hz0 (some ⟨g, 0, none⟩) i cap (fcells (l.take i)) hold (l.length + 1 - i) (by omega) (by omega) (by omega) (by omega) (by rw [hz2]; omega) (by rw [hz2, hik]; exact growslice_fits (by omega) (by omega))
    rw [hik, hG, hROW] at hh
    rw [show (l.length : Int) + 1 - (i : Int) = ((l.length + 1 - i : Nat) : Int) from by omega]
    exact hh
  obtain ⟨W1, hW1⟩ : ∃ W1, w.drew.alloc (.cells ROW 65) = W1 := ⟨_, rfl⟩
  have hh1 : W1.heap[w.heap.size]? = some (Obj.cells ROW 65 (0, 0)) := by rw [← hW1]; exact heap_alloc_new w.drew _
  have hb1 : Below w.heap.size w W1 := by rw [← hW1]; exact ((Below.refl _ w).drew).alloc (Nat.le_refl _) _
  rw [hW1] at hrz
  have hyl : (ROW.toList.take ((l.length + 1) * 2)).length = (l.length + 1) * 2 := by
    have e : ROW.toList.length = ROW.size := Array.length_toList
    rw [List.length_take, e]; omega
  have hown : W1.ownsRow base 65 2 (.slice (some ⟨w.heap.size, 0, none⟩) (l.length + 1) G) (l.length + 1) (ROW.toList.take ((l.length + 1) * 2)) := ⟨hyl, .inr ⟨w.heap.size, G, ROW, rfl, hbase, hh1, hGn, hG63, hRs, rfl⟩⟩
  have hcell : ∀ j, j < (l.length + 1) * 2 → (W1.cell? ⟨w.heap.size, j, none⟩).isSome = true := fun j hj => by
    have hj2 : j < ROW.size := by omega
    rw [cell_of_row W1 _ j _ _ _ hh1, Array.getElem?_eq_getElem hj2]; rfl
  have hfz : ∀ j, W1.frozen? ⟨w.heap.size, j, none⟩ = false := fun j => by simp [World.frozen?, hh1]
  have hcp1 : ∀ ty dc, (Builtin.copy_ #[23, 22] ty #[.slice (some ⟨w.heap.size, i * 2, none⟩) (l.length + 1 - i) dc, .slice (some ⟨N, 0, none⟩) 1 1]).run Tryz.prog W1 = .ok (goInt ((1 : Nat) : Int)) (W1.setCells w.heap.size (i * 2) x.cs) := fun ty dc => by
    refine run_copy_files _ _ _ ty Tryz.underlying23 w.heap.size (i * 2) _ dc ⟨N, 0, none⟩ 1 1 1 x.cs (by simp only [Nat.min_def]; split <;> omega) rfl (fun j v hv => by
        rw [Go.WideShapes.add_plain, Nat.zero_add]
        exact (hb1.cell (p := ⟨N, j, none⟩) hNl).trans ((cell_of_row w _ j _ _ _ hN).trans (by simpa [FX.cs] using hv)))
      (fun j hj => hcell _ (by have : j < 2 := hj; omega)) (fun j _ => hfz _) FX.one
  obtain ⟨W2, hW2⟩ : ∃ W2, W1.setCells w.heap.size (i * 2) x.cs = W2 := ⟨_, rfl⟩
  have hcp2 : ∀ ty dc sc, (Builtin.copy_ #[23, 23] ty #[.slice (some ⟨w.heap.size, (i + 1) * 2, none⟩) (l.length - i) dc, .slice (some ⟨g, i * 2, none⟩) (l.length - i) sc]).run Tryz.prog W2.drew = .ok (goInt ((l.length - i : Nat) : Int)) (W2.drew.setCells w.heap.size ((i + 1) * 2) (fcells (l.drop i))) := fun ty dc sc => by
    refine run_copy_files W2.drew _ _ ty Tryz.underlying23 w.heap.size ((i + 1) * 2) _ dc ⟨g, i * 2, none⟩ _ sc (l.length - i) (fcells (l.drop i)) (by simp only [Nat.min_def]; split <;> omega) hdl (fun j v hv => ?_) (fun j hj => ?_) (fun j _ => ?_) (fcells_one _)
    · rw [Go.WideShapes.add_plain]
      show W2.cell? _ = _
      rw [← hW2, World.cell?_setCells_out _ _ _ _ _ (fun h _ => absurd h (by show g ≠ w.heap.size; omega))]
      refine (hb1.cell (p := ⟨g, i * 2 + j, none⟩) hgl).trans (hsrc _ v ?_)
      rwa [← fcells_drop, List.getElem?_drop] at hv
    · show (W2.cell? _).isSome = true
      rw [← hW2]
      exact isSome_setCells w.heap.size x.cs (i * 2) W1 (fun q hq => hcell (i * 2 + q) (by have : q < 2 := hq; omega)) ((i + 1) * 2 + j) (hcell _ (by rw [hdl] at hj; omega))
    · show W2.frozen? _ = false
      rw [← hW2, World.frozen?_setCells]; exact hfz _
  have hfin : FilesOwn base (W2.drew.setCells w.heap.size ((i + 1) * 2) (fcells (l.drop i))) (.slice (some ⟨w.heap.size, 0, none⟩) (l.length + 1) G) (insX l i x) := by
    have hd : ∀ (vs : List Value) (o : Nat) (W : World), W.drew.setCells w.heap.size o vs = (W.setCells w.heap.size o vs).drew := fun vs o W => (drew_setCells w.heap.size vs o W).symm
    rw [hd, ← hW2]
    exact own_laid (W := W1) (x := x) (cap := G) rfl (Nat.le_of_lt hin) hown (by
      rw [List.take_take, ← fcells_take] at *
      rw [show min (i * 2) ((l.length + 1) * 2) = i * 2 from by omega, hRt, fcells_take]) hyl
  have hgr : w.grownBy (W2.drew.setCells w.heap.size ((i + 1) * 2) (fcells (l.drop i))) (some g) := by
    rw [← hW2]
    exact grown_trans2 (grown_trans2 (grown_trans2 (grownN hb1 _) (grown_setCells _ _) (.inr (fun q e => by cases e; exact Nat.le_refl _))) (grownN (below_drew1 _) (some g)) (.inl rfl)) (grown_setCells _ _) (.inr (fun q e => by cases e; exact Nat.le_refl _))
  rw [hW2] at hcp1
  have HFIN := Lib.hid hfin; clear hfin
  have HGR := Lib.hid hgr; clear hgr
  have q1 : ((i : Nat) : Int) < (l.length : Int) := by omega
  have q2 : ¬ ((i : Int) = (l.length : Int)) := by omega
  have q3 : ((i : Int) == (l.length : Int)) = false := by rw [beq_eq_false_iff_ne]; exact q2
  have q4 : ¬ cap = i := by omega
  have q5 : ¬ G = i := by omega
  have q6 : ¬ G = i + 1 := by omega
  have q7 : (cap : Int) < (l.length : Int) + 1 := by omega
  unfold maxLen at hG63
  clear h h' hsrc hdl htl hold hG hROW hRs hRt hW1 hh1 hb1 hyl hown hcell hfz hW2 hN hz0 hz1 hz2 hi0
  go_enter Tryz.func95, Tryz.ntmps95
  go_wp2_with (first
    | (at_builtin; refine Lib.wpList_append_run _ rfl _ _ 23 3 rfl (.slice (some ⟨g, 0, none⟩) i cap) (.int .i64 ((l.length : Int) + 1 - (i : Int))) rfl rfl _ _ (hrz _) ?_)
    | (at_builtin; refine wpList_copy_runI _ rfl _ _ 23 22 rfl _ _ rfl rfl (hcp1 _ _) ?_))
  have hw1 : IntKind.i64.wrap ((i : Int) + 1) = (i : Int) + 1 := IntWalk.i64_in _ (by omega)
  have htn : ((i : Int) + 1).toNat = i + 1 := by omega
  have hb1 : (0 : Int) ≤ (i : Int) + 1 := by omega
  have hb3 : (i : Int) ≤ (l.length : Int) + 1 := by omega
  have hb6 : (i : Int) ≤ (l.length : Int) := by omega
  have hb7 : (0 : Int) ≤ (i : Int) := by omega
  have hb5 : (i : Int) + 1 ≤ (l.length : Int) + 1 := by omega
  go_region_law (refine step_copy_runI rfl _ _ 23 23 rfl _ _ (by simp [Act.eval, Act.put]) (by simp [Act.eval, Act.put]) (hcp2 _ _ _) ?_)
  go_wp2_with fail
  go_ret
  exact ⟨_, rfl, HFIN.out, HGR.out⟩

/-- slices.Insert of one file, all roads. -/
theorem insert_any (base : Nat) (l : List FX) (A : Option Addr) (n c i : Nat) (x : FX) (N : Nat) (w : World) (h : FilesOwn base w (.slice A n c) l) (hn : n = l.length) (hl : l.length ≤ 100000) (hin : i ≤ n) (hbase : base ≤ w.heap.size) (hNg : ∀ a, A = some a → N ≠ a.block)
    (hN : w.heap[N]? = some (Obj.cells #[.string x.p, .slice x.A x.b.length x.c] 65 (0, 0))) :
    Calls Tryz.prog 95 #[.slice A n c, .int .i64 (i : Int), .slice (some ⟨N, 0, none⟩) 1 1] w (InsPost base (.slice A n c) w (insX l i x)) := by
  subst hn
  rcases Nat.lt_or_ge i l.length with hlt | hge
  · rcases h.form with ⟨_, h1⟩ | ⟨g, cap, cur, h0, _, _, h3, h4, _⟩
    · rw [h1] at hlt; exact absurd hlt (Nat.not_lt_zero _)
    · cases h0
      by_cases hr : l.length + 1 ≤ c
      · exact insert_shift base l g l.length c i x N w h rfl hl hlt hr (by unfold maxLen at h4; omega) (hNg _ rfl) hN
      · exact insert_grow base l g c i x N w h hl hlt h3 (by omega) hbase hN
  · obtain rfl : i = l.length := by omega
    exact insert_end base l A _ c x N w h rfl hl hbase hN
end Go.Proofs.YtffhfllikamccaaGreatDoor
