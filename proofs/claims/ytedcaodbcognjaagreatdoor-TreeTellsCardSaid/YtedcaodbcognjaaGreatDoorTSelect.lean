/-
  tree.Select.
-/
import Derived.Test.YtedcaodbcognjaaGreatDoorTPuts
import Derived.Test.YtedcaodbcognjaaGreatDoorMatch
namespace Go.Proofs.YtedcaodbcognjaaGreatDoor
open Go Go.RowKit Go.Shelf Go.Proofs

/-- The files whose paths match. -/
def selX (l : List FX) (g : ByteArray) : List FX := l.filter fun x => matchB g.data.toList x.p.data.toList
def pathVs (l : List FX) : List Value := l.map fun x => .string x.p
def selT (l : List Fl) (g : Bs) : List Bs := (l.filter fun x => matchB g x.1).map (·.1)
theorem selX_snoc {l : List FX} {k : Nat} {x : FX} (g : ByteArray) (hx : l[k]? = some x) : selX (l.take (k + 1)) g = selX (l.take k) g ++ (if matchB g.data.toList x.p.data.toList = true then [x] else []) := by
  unfold selX
  rw [List.take_add_one, hx, List.filter_append]
  simp [List.filter_cons]
theorem selX_le (l : List FX) (g : ByteArray) : (selX l g).length ≤ l.length := List.length_filter_le _ _
theorem selX_all (l : List FX) (g : ByteArray) : selX (l.take l.length) g = selX l g := by rw [List.take_length]
theorem pathVs_length (l : List FX) : (pathVs l).length = l.length := by unfold pathVs; simp
def StrsOwn (base : Nat) (w : World) (v : Value) (l : List FX) : Prop := w.ownsRow base 9 1 v l.length (pathVs l)
def SelPost (w : World) (l : List FX) (e : Ending) (w' : World) : Prop := ∃ v', e = .returned v' ∧ StrsOwn w.heap.size w' v' l ∧ Below w.heap.size w w'

set_option maxRecDepth 100000 in
set_option maxHeartbeats 4000000 in
theorem tselect_any (l : List FX) (A : Option Addr) (c : Nat) (g : ByteArray) (w : World) (h : TreeAt w A c l) (hs : SmallX l) (hg : g.size ≤ 1000000) (hm : MaxOk w) :
    Calls Tryz.prog 17 #[.slice A l.length c, .string g] w (SelPost w (selX l g)) := by
  obtain ⟨i0, hi, hz0, hz1, hz2⟩ := info_parts string_info
  have hl := hs.1
  have HT := Lib.hid h; clear h
  have HS := Lib.hid hs; clear hs
  have HM := Lib.hid hm; clear hm
  have HI := Lib.hid hi; clear hi
  go_enter Tryz.func17, Tryz.ntmps17
  go_wp2_with fail
  go_loopw [5, 10] (fun v i wr => ∃ (k : Nat), k ≤ l.length ∧ i = .int .i64 k ∧ StrsOwn w.heap.size wr v (selX (l.take k) g) ∧ Below w.heap.size w wr) (fun _ i _ => l.length - (intOf i).toNat)
  case atStart => exact ⟨0, Nat.zero_le _, rfl, World.ownsRow_nil _ _ _ _, Below.refl _ _⟩
  case round =>
    obtain ⟨k, hk, rfl, hrow, hbr⟩ := hrel
    obtain ⟨Av, cv, rfl, _, _⟩ := ownsRow_slice hrow
    have hW : w.heap.size ≤ wr.heap.size := hbr.size
    by_cases h1 : k < l.length
    · obtain ⟨x, hx⟩ : ∃ x, l[k]? = some x := ⟨_, List.getElem?_eq_getElem h1⟩
      obtain ⟨b, o, hA, hr⟩ := HT.out.row (by omega)
      subst hA
      obtain ⟨c1, c2⟩ := (hr.keep fun hb => hbr.block _ hb) k x hx
      have hxs := (HS.out.2 x (List.mem_of_getElem? hx)).1
      have hsn := selX_snoc g hx
      have hlen : (selX (l.take k) g).length ≤ 100000 := Nat.le_trans (selX_le _ _) (Nat.le_trans (by rw [List.length_take]; omega) hl)
      have k1 : (k : Int) < (l.length : Int) := by omega
      clear hr
      have hbn : Below wr.heap.size wr (wr.alloc (.cells #[.string x.p, .slice x.A x.b.length x.c] 26)) := (Below.refl _ _).alloc (Nat.le_refl _) _
      have HMA := Lib.hid (match_any g x.p _ (by unfold maxLen; omega) (by unfold maxLen; omega) ((HM.out.below hbr).below hbn))
      have hbx := heap_alloc_new wr (.cells #[.string x.p, .slice x.A x.b.length x.c] 26)
      have HBX := Lib.hid hbx; clear hbx
      have HBN := Lib.hid hbn; clear hbn
      have HX := Lib.hid hx; clear hx
      have HSN := Lib.hid hsn; clear hsn
      have HR := Lib.hid hrow; clear hrow
      have HB := Lib.hid hbr; clear hbr
      go_wp2_with fail
      refine HMA.out.mono ?_
      rintro e w2 ⟨rfl, hb2⟩
      have hlt := (Array.getElem?_eq_some_iff.1 HBX.out).1
      have hh2 := (hb2.block _ hlt).trans HBX.out
      have e1 : w2.cell? ⟨wr.heap.size, 0, none⟩ = some (.string x.p) := cell_of_row _ _ 0 _ _ _ hh2
      have hb2 : Below wr.heap.size wr w2 := HBN.out.trans (hb2.mono HBN.out.size)
      have hro : StrsOwn w.heap.size w2 (.slice Av (selX (l.take k) g).length cv) (selX (l.take k) g) := World.ownsRow.kept HR.out (grownN hb2 none) (by cases (Value.slice Av (selX (l.take k) g).length cv).ownBlock <;> simp)
      have hbw := HB.out.trans (hb2.mono HB.out.size)
      clear hlt hh2 c1 c2 hb2
      cases hq : matchB g.data.toList x.p.data.toList with
      | true =>
        have hn : selX (l.take (k + 1)) g = selX (l.take k) g ++ [x] := by rw [HSN.out, if_pos hq]
        have hW2 : w.heap.size ≤ w2.heap.size := hbw.size
        have HN := Lib.hid hn; clear hn
        have HQ := Lib.hid hq; clear hq
        have hi := HI.out
        go_wp2_with (at_builtin; refine wpList_append_own _ rfl _ _ 36 rfl w.heap.size 9 i0 (.string ⟨#[]⟩) 1 16 Tryz.underlying36 hi hz0 hz1 hz2 rfl (by decide) _ _ _ rfl (hro.alloc _) ⟨w2.heap.size, 0, none⟩ 1 1 [.string x.p] rfl rfl (cell_one_new _ _ _) (by simp [Value.oneCell']) (by unfold maxLen; omega) (by omega) (by simp; omega) ?_; intro v' w3 hown' hgrow _)
        go_roundw
        case rel =>
          refine ⟨k + 1, by omega, by go_num, ?_, hbw.trans (((Below.refl _ _).alloc hW2 _).grown hgrow (by simp; omega) fun j ej => (row_ge hro ej).1)⟩
          rw [HN.out]
          show World.ownsRow _ _ _ _ _ _ _
          rw [List.length_append]
          unfold pathVs
          rw [List.map_append]
          exact hown'
        case measure => simp [intOf]; omega
      | false =>
        have hn : selX (l.take (k + 1)) g = selX (l.take k) g := by rw [HSN.out, hq, if_neg (by decide), List.append_nil]
        have HN := Lib.hid hn; clear hn
        have HQ := Lib.hid hq; clear hq
        go_wp2_with fail
        go_roundw
        case rel => exact ⟨k + 1, by omega, by go_num, by rw [HN.out]; exact hro, hbw⟩
        case measure => simp [intOf]; omega
    · obtain rfl : k = l.length := by omega
      have hx := selX_all l g
      have HX := Lib.hid hx; clear hx
      go_wp2_with fail
      go_ret
      exact ⟨_, rfl, by rw [← HX.out]; exact hrow, hbr⟩

/-- A row of paths. -/
def PathsAt (w : World) (A : Option Addr) (l : List FX) : Prop := 0 < l.length → ∃ g, A = some ⟨g, 0, none⟩ ∧ ∀ i x, l[i]? = some x → w.cell? ⟨g, i, none⟩ = some (.string x.p)
theorem PathsAt.below {w w' : World} {A : Option Addr} {l : List FX} (h : PathsAt w A l) (hb : Below w.heap.size w w') : PathsAt w' A l := fun hn => by
  obtain ⟨g, e, hc⟩ := h hn
  refine ⟨g, e, fun i x hx => ?_⟩
  have h1 := hc i x hx
  exact (hb.cell (p := ⟨g, i, none⟩) (World.block_lt_of_cell? w (a := ⟨g, i, none⟩) h1)).trans h1
theorem StrsOwn.paths {base : Nat} {w : World} {v : Value} {l : List FX} (h : StrsOwn base w v l) : ∃ A c, v = .slice A l.length c ∧ PathsAt w A l := by
  have hown : w.ownsRow base 9 1 v l.length (pathVs l) := h
  rcases hown.2 with ⟨rfl, h0⟩ | ⟨g, cap, cur, rfl, _, _, hc, hcm, _, _⟩
  · refine ⟨none, 0, by rw [h0], fun h => absurd h (by omega)⟩
  · refine ⟨_, _, rfl, fun _ => ⟨g, rfl, fun i x hx => ?_⟩⟩
    have h1 : (pathVs l)[i]? = some (.string x.p) := by unfold pathVs; rw [List.getElem?_map, hx]; rfl
    have a1 := World.ownsRow.cells hown (g := g) rfl _ _ h1
    rw [Go.WideShapes.add_plain, Nat.zero_add] at a1
    exact a1
end Go.Proofs.YtedcaodbcognjaaGreatDoor
