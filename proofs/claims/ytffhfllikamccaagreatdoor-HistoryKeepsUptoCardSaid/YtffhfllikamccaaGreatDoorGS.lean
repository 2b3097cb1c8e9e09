/-
  The program's Deltas of layer 3 (history): what made a revision. · The program's sorting of files by their paths (slices.SortFunc under At's closure). · What At lays, path by path, in an order that nobody knows. No program is named here. · The program's At of layer 3 (history): the tree of a revision. · The document's own Same, of trees of any length.
-/
import Derived.Test.YtffhfllikamccaaGreatDoorGPlain
import Derived.Test.YtffhfllikamccaaGreatDoorGCommit
import Derived.Test.YtffhfllikamccaaGreatDoorSortF
import Derived.Test.YtffhfllikamccaaGreatDoorShelf
import Derived.Test.YtffhfllikamccaaGreatDoorTRefA
import Derived.Maps.RangeWalk
import Derived.Sort.MapsRangeIn
import Derived.Sort.OwnSorted
import Derived.Deep.LoopGhost
import Derived.Shelf.SlSortCmp.NoneTotal
import Derived.BigRegion
import Derived.Deep.RegionHeld3
import Derived.BigQuiet
namespace Go.Proofs.YtffhfllikamccaaGreatDoor
open Go Go.RowKit Go.Shelf Go.Proofs Go.ChangeMaps Go.Maps Go.WideMaps

theorem hrefusal_any (hb : Nat) (A : Option Addr) (n c : Nat) (r : Nat) (hr : r ≤ n) (w : World) (h1 : w.cell? ⟨hb, 1, none⟩ = some (.slice A n c)) :
    Calls Tryz.prog 36 #[.pointer (some ⟨hb, 0, none⟩), .int .i64 r] w fun e w' => e = .returned (.int .i64 0) ∧ w' = w := by
  have HH := Lib.hid (hhead_any hb A n c w h1)
  have q0 : ((r : Int) < 0) = False := eq_false (by omega)
  have q1 : ((n : Int) < (r : Int)) = False := eq_false (by omega)
  clear h1
  go_enter Tryz.func36, Tryz.ntmps36
  go_wp2_with fail
  refine HH.out.mono ?_
  rintro e w1 ⟨rfl, hw1⟩
  have hw1 := hw1.symm
  subst hw1
  go_wp2_with fail
  go_ret
  exact ⟨rfl, rfl⟩

/-- One change more in a row of the call's own. -/
theorem wpList_appendG {ops : Array Oper} {rest : List Oper} {o : Oper} {a : Act} {w : World} {Q : Exit → Act → World → Prop} (hgd : o.guard = none) (s y : Operand)
    (ho : o.op = .call { callee := .builtin .append, args := #[s, y], argTypes := #[39, 39] })
    (base : Nat) (v : Value) (l : List DX) (x : DX) (g c : Nat) (hs : a.eval s = v) (hown : DeltasAt base w v l) (hx : a.eval y = .slice (some ⟨g, 0, none⟩) 1 c)
    (hb : w.cell? ⟨g, 0, none⟩ = some (.int .i64 x.k) ∧ w.cell? ⟨g, 1, none⟩ = some (.string x.p) ∧ w.cell? ⟨g, 2, none⟩ = some (.slice x.A x.b.length x.c)) (hbo : BytesOwn w x.A x.b) (hl : l.length ≤ 1000000) (hbase : base ≤ w.heap.size)
    (h : ∀ v' w', DeltasAt base w' v' (l ++ [x]) → w.grownBy w' v.ownBlock → wpList Tryz.prog ops Q rest (a.put o.dst v') w') : wpList Tryz.prog ops Q (o :: rest) a w := by
  obtain ⟨i0, hi, hz0, hz1, hz2⟩ := info_parts delta_info
  refine wpList_append_own w hgd s y 39 ho base 62 i0 (.agg #[.int .i64 0, .string ⟨#[]⟩, .slice none 0 0]) 3 48 Tryz.underlying39 hi hz0 hz1 hz2 rfl (by decide) v l.length (dcells l) hs hown.own ⟨g, 0, none⟩ 1 c x.cs hx rfl ?_ ?_ (by unfold maxLen; omega) (by omega) hbase fun v' w' h1 h2 _ => h v' w' (hown.push hbo h1 h2) h2
  · intro j u hu
    rw [Go.WideShapes.add_plain, Nat.zero_add]
    match j, hu with
    | 0, hu => obtain rfl : Value.int .i64 x.k = u := by simpa [DX.cs] using hu
               exact hb.1
    | 1, hu => obtain rfl : Value.string x.p = u := by simpa [DX.cs] using hu
               exact hb.2.1
    | 2, hu => obtain rfl : Value.slice x.A x.b.length x.c = u := by simpa [DX.cs] using hu
               exact hb.2.2
    | j + 3, hu => simp [DX.cs] at hu
  · intro u hu
    simp only [DX.cs, List.mem_cons, List.mem_nil_iff, or_false] at hu
    rcases hu with rfl | rfl | rfl <;> rfl

theorem RevsF.rev {w : World} : ∀ {H : List (Nat × List DX)} {D : DataW Unit}, RevsF w H D → ∀ {i : Nat} {G : Nat} {L : List DX}, H[i]? = some (G, L) → ∃ D', RevAt w G L (H.length - 1 - i) D'
  | [], _, _, _, _, _, h => by simp at h
  | (G', L') :: H, _, ⟨D', h1, h2, _⟩, i, G, L, h => by
    cases i with
    | zero => simp only [List.getElem?_cons_zero, Option.some.injEq, Prod.mk.injEq] at h; obtain ⟨rfl, rfl⟩ := h; exact ⟨D', by simpa using h2⟩
    | succ i =>
      obtain ⟨D2, h3⟩ := h1.rev (i := i) (by simpa using h)
      refine ⟨D2, ?_⟩
      rw [List.length_cons, show H.length + 1 - 1 - (i + 1) = H.length - 1 - i by omega]
      exact h3
theorem rowsV_at {H : List (Nat × List DX)} {n r : Nat} (hn : H.length = n + 1) (h1 : 1 ≤ r) (hr : r ≤ n) {G : Nat} {L : List DX} (hG : H[n - r]? = some (G, L)) : (rowsV H)[r - 1]? = some (.slice (some ⟨G, 0, none⟩) L.length L.length) := by
  unfold rowsV
  rw [List.getElem?_map, List.getElem?_reverse (by rw [List.length_dropLast]; omega), List.length_dropLast, hn, List.getElem?_dropLast, if_pos (by omega), show n + 1 - 1 - 1 - (r - 1) = n - r by omega, hG]
  rfl
theorem HistAt.commit_row {base : Nat} {w : World} {hb n : Nat} {nm : List FX} {M : Bs → Nat} {nv cv : Value} {mb k : Nat} {D : DataW Unit} {H : List (Nat × List DX)} (h : HistAt base w hb n nm M nv cv mb k D H) {r : Nat} (h1 : 1 ≤ r) (hr : r ≤ n) {G : Nat} {L : List DX} (hG : H[n - r]? = some (G, L)) :
    ∃ g c, cv = .slice (some ⟨g, 0, none⟩) n c ∧ w.cell? ⟨g, r - 1, none⟩ = some (.slice (some ⟨G, 0, none⟩) L.length L.length) := by
  rcases h.commits.2 with ⟨_, h0⟩ | ⟨g, cap, cur, rfl, _, hg, _, _, hh⟩
  · omega
  · refine ⟨g, cap, rfl, (cell_of_row w g _ _ _ _ hg).trans ?_⟩
    have h3 := rowsV_at h.num h1 hr hG
    rw [← hh.2, List.getElem?_take, if_pos (by omega)] at h3
    rw [← Array.getElem?_toList]
    exact h3

theorem boxG (w : World) (x : DX) (t : TypeId) : (w.alloc (.cells #[.int .i64 x.k, .string x.p, .slice x.A x.b.length x.c] t)).cell? ⟨w.heap.size, 0, none⟩ = some (.int .i64 x.k) ∧ (w.alloc (.cells #[.int .i64 x.k, .string x.p, .slice x.A x.b.length x.c] t)).cell? ⟨w.heap.size, 1, none⟩ = some (.string x.p) ∧ (w.alloc (.cells #[.int .i64 x.k, .string x.p, .slice x.A x.b.length x.c] t)).cell? ⟨w.heap.size, 2, none⟩ = some (.slice x.A x.b.length x.c) := by
  have h := heap_alloc_new w (.cells #[.int .i64 x.k, .string x.p, .slice x.A x.b.length x.c] t)
  exact ⟨cell_of_row _ _ 0 _ _ _ h, cell_of_row _ _ 1 _ _ _ h, cell_of_row _ _ 2 _ _ _ h⟩

def DeltasPost (L : List DX) (w : World) (e : Ending) (w' : World) : Prop := ∃ v l, e = .returned (.tuple #[v, .int .i64 0]) ∧ DeltasAt w.heap.size w' v l ∧ l.map DX.dl = L.map DX.dl ∧ Below w.heap.size w w'

theorem RecAt.range {w : World} {g o : Nat} {k : Int} {p : ByteArray} {A : Option Addr} {n c : Nat} {rev : Int} {bv : Value} (h : RecAt w g o k p A n c rev bv) : w.rangeAt g o [.int .i64 k, .string p, .slice A n c, .int .i64 rev, bv] := fun j v hv => by
  match j, hv with
  | 0, hv => simp at hv; subst hv; exact h.kind
  | 1, hv => simp at hv; subst hv; exact h.path
  | 2, hv => simp at hv; subst hv; exact h.body
  | 3, hv => simp at hv; subst hv; exact h.rev
  | 4, hv => simp at hv; subst hv; exact h.before
  | j + 5, hv => simp at hv

set_option maxRecDepth 100000 in
set_option maxHeartbeats 8000000 in
theorem hdeltas_any {base : Nat} {w : World} {hb n : Nat} {nm : List FX} {M : Bs → Nat} {nv cv : Value} {mb k : Nat} {D : DataW Unit} {H : List (Nat × List DX)} (h : HistAt base w hb n nm M nv cv mb k D H) {r : Nat} (h1 : 1 ≤ r) (hr : r ≤ n) (hn : n ≤ 100000) {G : Nat} {L : List DX} (hG : H[n - r]? = some (G, L)) :
    Calls Tryz.prog 18 #[.pointer (some ⟨hb, 0, none⟩), .int .i64 r] w (DeltasPost L w) := by
  obtain ⟨gc, cc, rfl, hrow⟩ := h.commit_row h1 hr hG
  obtain ⟨D', hrev⟩ := h.full.rev hG
  have hsm := h.sm _ (List.mem_of_getElem? hG)
  have c1 := cell_of_row w hb 1 _ _ _ h.heap
  have HREF := Lib.hid (hrefusal_any hb (some ⟨gc, 0, none⟩) n cc r hr w c1)
  have q0 : ((r : Int) = 0) = False := eq_false (by omega)
  have q1 : (r : Int) - 1 = ((r - 1 : Nat) : Int) := by omega
  have q2 : (((r - 1 : Nat) : Int) < (n : Int)) := by omega
  have hfit : wrap64 ((r - 1 : Nat) : Int) = ((r - 1 : Nat) : Int) := IntWalk.wrap64_in _ (by omega)
  have q4 : ((r - 1 : Nat) : Int) < (n : Int) := by omega
  have q3 : ((r : Int) == 0) = false := by rw [beq_eq_false_iff_ne]; omega
  have HR := Lib.hid hrev
  have HSM := Lib.hid hsm
  have HN1 := Lib.hid h1
  clear h hG hrev hsm h1
  go_enter Tryz.func18, Tryz.ntmps18
  go_wp2_with fail
  refine HREF.out.mono ?_
  rintro e w1 ⟨rfl, hw1⟩
  have hw1 := hw1.symm
  subst hw1
  go_wp2_with fail
  go_loopw [7, 29] (fun v i wr => ∃ (k : Nat) (l : List DX), k ≤ L.length ∧ i = .int .i64 k ∧ DeltasAt w.heap.size wr v l ∧ l.map DX.dl = (L.take k).map DX.dl ∧ Below w.heap.size w wr) (fun _ i _ => L.length - (intOf i).toNat)
  case atStart => exact ⟨0, [], Nat.zero_le _, rfl, DeltasAt.nil _ _, rfl, Below.refl _ _⟩
  case round =>
    obtain ⟨k, l, hk, rfl, hd, he, hbr⟩ := hrel
    have hW := hbr.size
    by_cases h1 : k < L.length
    · obtain ⟨x, hx⟩ : ∃ x, L[k]? = some x := ⟨_, List.getElem?_eq_getElem h1⟩
      obtain ⟨A', c', hrec, hbo⟩ := (HR.out.keep (KeepR.below hbr)).recs k x hx
      obtain ⟨bv, hbv⟩ := ptrOf_ptr (atS (laidS D' G (pathsX L) k) x.p.data.toList)
      rw [hbv] at hrec
      have hrg := hrec.range
      have k1 : (k : Int) < (L.length : Int) := by omega
      have hlm : L.length ≤ 10000 := HSM.out.1
      have hll : l.length ≤ L.length := by have := congrArg List.length he; simp at this; omega
      have HX := Lib.hid hx
      have HE := Lib.hid he
      have HD := Lib.hid hd
      have HLL := Lib.hid hll
      have HBL := Lib.hid (HSM.out.2 x (List.mem_of_getElem? hx)).2
      have HBO := Lib.hid hbo
      have r0 := hrec.kind
      have r1 := hrec.path
      have r2 := hrec.body
      have r3 := hrec.rev
      have r4 := hrec.before
      have HHW := Lib.hid hW
      have HBR := Lib.hid hbr
      clear hrec hbv hx he hd hll hbo hW hbr hrg
      go_wp2_with fail
      obtain ⟨W1, hW1⟩ : ∃ W, wr.alloc (.cells #[.int .i64 x.k, .string x.p, .slice A' x.b.length c', .int .i64 ((H.length - 1 - (n - r) : Nat) : Int), .pointer bv] 85) = W := ⟨_, rfl⟩
      have hb1 := below_box wr (.cells #[.int .i64 x.k, .string x.p, .slice A' x.b.length c', .int .i64 ((H.length - 1 - (n - r) : Nat) : Int), .pointer bv] 85)
      rw [hW1] at hb1 ⊢
      refine (hown_any ⟨x.k, x.p, A', c', x.b⟩ W1 (HBO.out.below hb1).at_ HBL.out).mono ?_
      rintro e w2 ⟨A2, c2, rfl, hbo2, hb2⟩
      have hb12 := hb1.trans (hb2.mono hb1.size)
      have HB12 := Lib.hid hb12
      have HBO2 := Lib.hid hbo2
      have hW2 : w.heap.size ≤ w2.heap.size := Nat.le_trans HHW.out hb12.size
      have HW2 := Lib.hid hW2
      have hD2 := HD.out.below hb12
      have HD2 := Lib.hid hD2
      clear hb1 hb2 hb12 hbo2 hW2 hD2 hW1 r0 r1 r2 r3 r4
      go_wp2_with (at_builtin; refine wpList_appendG rfl _ _ rfl w.heap.size _ l ⟨x.k, x.p, A2, c2, x.b⟩ w2.heap.size 1 rfl (HD2.out.below (below_box w2 _)) rfl (boxG w2 ⟨x.k, x.p, A2, c2, x.b⟩ _) (HBO2.out.below (below_box w2 _)) (by have := HLL.out; have := HSM.out.1; omega) (Nat.le_trans HW2.out (below_box w2 _).size) ?_; intro v' w' hown' hgrow)
      go_roundw
      case rel => exact ⟨k + 1, _, by omega, by go_num, hown', by
        rw [List.map_append, HE.out, List.take_add_one, HX.out, List.map_append]
        rfl, ((HBR.out.trans (HB12.out.mono HBR.out.size)).trans ((below_box w2 _).mono HW2.out)).grown hgrow (Nat.le_trans HW2.out (below_box w2 _).size) fun j ej => (HD2.out.row ej).1⟩
      case measure => simp [intOf]; omega
    · obtain rfl : k = L.length := by omega
      rw [List.take_length] at he
      have HD := Lib.hid hd
      have HE := Lib.hid he
      clear hd he
      go_wp2_with fail
      go_ret2
      exact ⟨_, _, rfl, HD.out, HE.out, hbr⟩
end Go.Proofs.YtffhfllikamccaaGreatDoor
namespace Go.Proofs.YtffhfllikamccaaGreatDoor
open Go Go.RowKit Go.Shelf Go.Proofs

def cmpX (x y : FX) : Int := Lib.compareBytes x.p.data.toList y.p.data.toList
theorem cmpX_lt (x y : FX) : Go.Proofs.ltOf cmpX x y = ltB x.p.data.toList y.p.data.toList := by
  unfold Go.Proofs.ltOf cmpX
  rcases cmpB_cases x.p.data.toList y.p.data.toList with ⟨e, h⟩ | ⟨e, h⟩ | ⟨e, h⟩
  · rw [e, h]; rfl
  · rw [e, h, ltB_irrefl]; rfl
  · rw [e, ltB_asymm _ _ h]; rfl
theorem cmpX_swo : Go.Sort.SWO (Go.Proofs.ltOf cmpX) := by
  refine ⟨fun x => ?_, fun x y z h1 h2 => ?_, fun x y z h1 h2 => ?_⟩
  · rw [cmpX_lt, ltB_irrefl]
  · rw [cmpX_lt] at *; exact ltB_trans _ _ _ h1 h2
  · rw [cmpX_lt] at *
    cases h : ltB x.p.data.toList z.p.data.toList with
    | false => rfl
    | true =>
      cases h3 : ltB y.p.data.toList x.p.data.toList with
      | true => rw [ltB_trans _ _ _ h3 h] at h2; cases h2
      | false => rw [ltB_tri _ _ h1 h3, h2] at h; cases h

theorem hcmp_any (x y : FX) (W : World) : Calls Tryz.prog 39 #[.agg x.cs.toArray, .agg y.cs.toArray] W fun e w' => e = .returned (.int .i64 (cmpX x y)) ∧ ∃ q os', w' = Go.Sort.grow (W.drewN q) os' := by
  have hcon := fun W' => Tryz.strings_Compare x.p y.p W'
  change ∀ W', Calls Tryz.prog 40 _ _ _ at hcon
  unfold cmpX
  generalize Lib.compareBytes x.p.data.toList y.p.data.toList = r at hcon ⊢
  unfold FX.cs
  go_enter Tryz.func39, Tryz.ntmps39
  go_wp2_with fail
  refine (hcon _).mono ?_
  rintro e w' ⟨rfl, rfl⟩
  go_wp2_with fail
  go_ret
  exact ⟨rfl, 0, _, by rw [Go.Sort.alloc_eq_grow, Go.Sort.alloc_eq_grow, Go.Sort.grow_grow]; rfl⟩

/-- Files' cells, as the sort sees them. -/
theorem flatX (l : List FX) : (Go.Sort.flatK FX.cs 2 l.toArray).toList = fcells l := by
  have hsz : (Go.Sort.flatK FX.cs 2 l.toArray).size = l.length * 2 := by simp
  apply List.ext_getElem?
  intro t
  by_cases ht : t < l.length * 2
  · have e1 := Go.Sort.get_flatK FX.cs 2 l.toArray t (by simpa using ht)
    obtain ⟨x, hx⟩ : ∃ x, l[t / 2]? = some x := ⟨_, List.getElem?_eq_getElem (by omega)⟩
    obtain ⟨c1, c2⟩ := fcells_at l (t / 2) x hx
    have hx2 : l.toArray[t / 2]! = x := by
      rw [getElem!_pos _ _ (by simp; omega)]
      simpa using (List.getElem?_eq_some_iff.1 hx).2
    rw [hx2] at e1
    rw [Array.getElem?_toList, Array.getElem?_eq_getElem (by omega), ← getElem!_pos _ t (by omega), e1]
    rcases Nat.mod_two_eq_zero_or_one t with h | h
    · have e2 : t = t / 2 * 2 := by omega
      rw [h]
      conv => rhs; rw [e2]
      rw [c1]; rfl
    · have e2 : t = t / 2 * 2 + 1 := by omega
      rw [h]
      conv => rhs; rw [e2]
      rw [c2]; rfl
  · rw [List.getElem?_eq_none (by simp; omega), List.getElem?_eq_none (by rw [fcells_length]; omega)]

theorem sort_heap {w : World} {g n : Nat} {os : Array Obj} {cur F : Array Value} {e : TypeId} {fr : Nat × Nat} (hb : w.heap[g]? = some (.cells cur e fr)) :
    (Go.Sort.grow (Go.Sort.putRow id (Go.Sort.ahead w n) g 0 F) os).heap[g]? = some (.cells (Go.Sort.putCells id 0 F cur) e fr) := by
  have hg : g < w.heap.size := (Array.getElem?_eq_some_iff.1 hb).1
  rw [Go.Sort.heap_grow_old _ _ (by simpa using hg)]
  simp [Go.Sort.putRow, Go.Sort.mapBlock, Go.Sort.ahead, Array.getElem?_modify, hb, Go.Sort.onCells]
theorem sort_grown {w : World} {g n : Nat} {os : Array Obj} {F : Array Value} : w.grownBy (Go.Sort.grow (Go.Sort.putRow id (Go.Sort.ahead w n) g 0 F) os) (some g) := by
  refine ⟨rfl, rfl, rfl, by simp, fun k hk hne => ?_⟩
  rw [Go.Sort.heap_grow_old _ _ (by simpa using hk)]
  have : g ≠ k := fun e => hne (by rw [e])
  simp [Go.Sort.putRow, Go.Sort.mapBlock, Go.Sort.ahead, Array.getElem?_modify, this]
theorem sort_take (cur F : Array Value) (h : F.size ≤ cur.size) : (Go.Sort.putCells id 0 F cur).toList.take F.size = F.toList := by
  apply List.ext_getElem?
  intro j
  by_cases hj : j < F.size
  · rw [List.getElem?_take_of_lt hj, Array.getElem?_toList]
    simp [Go.Sort.putCells, hj, show j < cur.size by omega]
  · rw [List.getElem?_take_eq_none (by omega), List.getElem?_eq_none (by simp; omega)]

theorem sort_holds {w : World} {g : Nat} {cur : Array Value} {e : TypeId} {F : Array Value} (hb : w.heap[g]? = some (.cells cur e (0, 0))) (ht : cur.toList.take F.size = F.toList) : Go.Sort.Holds id w g 0 F := by
  intro j hj
  refine ⟨?_, by simp [World.frozen?, hb]⟩
  have h1 : (cur.toList.take F.size)[j]? = F.toList[j]? := by rw [ht]
  rw [List.getElem?_take_of_lt hj] at h1
  rw [cell_of_row w g _ _ _ _ hb, Nat.zero_add, ← Array.getElem?_toList, h1]
  simp [hj]

/-- What the sort leaves: the same files, by rising paths. -/
def SortPost (base : Nat) (l : List FX) (v : Value) (w : World) (e : Ending) (w' : World) : Prop :=
  e = .returned (.tuple #[]) ∧ ∃ l', l'.Perm l ∧ l'.Pairwise (fun x y => ltB y.p.data.toList x.p.data.toList = false) ∧ FilesOwn base w' v l' ∧ w.grownBy w' v.ownBlock

set_option maxHeartbeats 2000000 in
theorem hsort_any (base : Nat) (l : List FX) (g cap : Nat) (w : World) (h : FilesOwn base w (.slice (some ⟨g, 0, none⟩) l.length cap) l) (hl : l.length ≤ 1000000000) :
    Calls Tryz.prog 38 #[.slice (some ⟨g, 0, none⟩) l.length cap, .func (.func 39) #[] #[]] w (SortPost base l (.slice (some ⟨g, 0, none⟩) l.length cap) w) := by
  obtain ⟨hl0, hr⟩ := h
  rcases hr with ⟨h0, _⟩ | ⟨g', cap', cur, hv, hbase, hb, h1, h2, h3, h4⟩
  · cases h0
  cases hv
  have hH : Go.Sort.HoldsK FX.cs 2 w g 0 l.toArray := sort_holds hb (by rw [flatX]; simpa using h4)
  have hgl : g < w.heap.size := (Array.getElem?_eq_some_iff.1 hb).1
  have eg : ∀ args w, (callFunc 39 args).run Tryz.prog w = .ok (.enter 39 args) w := enters_of Tryz.func39 (by kernel_rfl) rfl
  have hR : Go.Proofs.RowK FX.cs 2 w g 0 l.toArray := ⟨fun _ => rfl, fun x u hu => by
    simp only [FX.cs, List.mem_cons, List.mem_nil_iff, or_false] at hu
    rcases hu with rfl | rfl <;> rfl, hH, hgl⟩
  have hp := AnyQ.pdqsortCmpFunc_all Tryz.pdqF 2 Tryz.isAgg65 Tryz.sizeOf65 FX.cs cmpX 39 #[] cmpX_swo g 0 cap l.toArray w eg (fun m os dk hs x y => hcmp_any x y _) hR (l.length + 1) 0 l.length (Lib.bitLen l.length) l.toArray w (by omega) rfl (SWK.start hH) (Nat.zero_le _) (by simp) (by simp; omega) (Nat.lt_of_le_of_lt (Lib.bitLen_le l.length 62 (by omega) (by omega)) (by omega)) (Or.inl rfl)
  have hsz := Go.Sort.pdq_sorts (ltOf cmpX) cmpX_swo l.toArray 0 l.length (Lib.bitLen l.length) true true (Nat.zero_le _) (by simp) (Or.inl rfl)
  change Calls Tryz.prog 58 _ _ _ at hp
  have hln : ∀ W, Calls Tryz.prog 59 #[.int .u64 (l.length : Int)] W fun e w' => e = .returned (.int .i64 (Lib.bitLen l.length : Nat)) ∧ w' = W := fun W => by
    have h := Tryz.bits_Len (l.length : Int) W (by omega) (by omega)
    rwa [Int.toNat_natCast] at h
  have wr : IntKind.u64.wrap (l.length : Int) = l.length := by simp [IntKind.wrap, IntKind.bits, IntKind.signed]; omega
  have HP := Lib.hid hp
  have HSZ := Lib.hid hsz
  have HB := Lib.hid hb
  have H4 := Lib.hid h4
  have H3 := Lib.hid h3
  have HBS := Lib.hid hbase
  clear hp hsz hb h4 hH hR eg h3
  go_enter Tryz.func38, Tryz.ntmps38
  go_wp2_with fail
  refine (hln _).mono ?_
  rintro e w1 ⟨rfl, rfl⟩
  go_wp2_with fail
  refine HP.out.mono ?_
  rintro e w2 ⟨rfl, hw2⟩
  go_wp2_with fail
  go_end0
  obtain ⟨n, os, rfl⟩ := hw2
  obtain ⟨⟨hs1, _, hpm⟩, hso⟩ := HSZ.out
  have hs2 : (Go.Sort.pdq (ltOf cmpX) l.toArray 0 l.length (Lib.bitLen l.length) true true).size = l.length := by rw [hs1]; simp
  refine ⟨rfl, (Go.Sort.pdq (ltOf cmpX) l.toArray 0 l.length (Lib.bitLen l.length) true true).toList, ?_, ?_, ?_, ?_⟩
  · simpa [Array.extract_eq_self_of_le, hs2] using hpm
  · rw [List.pairwise_iff_getElem]
    intro i j hi hj hij
    rw [Array.length_toList] at hi hj
    have h := hso i j (Nat.zero_le _) hij (by omega)
    rw [cmpX_lt, getElem!_pos _ i hi, getElem!_pos _ j hj] at h
    simpa using h
  · have hfx := flatX (Go.Sort.pdq (ltOf cmpX) l.toArray 0 l.length (Lib.bitLen l.length) true true).toList
    rw [Array.toArray_toList] at hfx
    have hfs : (Go.Sort.flatK FX.cs 2 (Go.Sort.pdq (ltOf cmpX) l.toArray 0 l.length (Lib.bitLen l.length) true true)).size = l.length * 2 := by simp [hs2]
    have hlen : (Go.Sort.pdq (ltOf cmpX) l.toArray 0 l.length (Lib.bitLen l.length) true true).toList.length = l.length := by rw [Array.length_toList, hs2]
    refine ⟨by rw [fcells_length], .inr ⟨g, cap, _, congrArg (fun q => Value.slice (some ⟨g, 0, none⟩) q cap) hlen.symm, HBS.out, sort_heap HB.out, Nat.le_trans (Nat.le_of_eq hlen) h1, h2, by simp [Go.Sort.putCells, H3.out], ?_⟩⟩
    rw [← hfx, Array.length_toList, hs2, ← hfs]
    exact sort_take _ _ (by have := H3.out; omega)
  · exact sort_grown
end Go.Proofs.YtffhfllikamccaaGreatDoor
namespace Go.Proofs.YtffhfllikamccaaGreatDoor
open Go Go.RowKit Go.Shelf Go.Proofs Go.ChangeMaps Go.Maps Go.WideMaps

/-- No key of the map leads nowhere. -/
def NoNil (D : DataW Unit) : Prop := ∀ kl zd, D.atKey kl zd = zd ∨ ∃ g o, D.atKey kl zd = addrOf g o
theorem NoNil.laid {D : DataW Unit} (hD : Maps.IsMap D) (h : NoNil D) (G : Nat) (ps : List Bs) : ∀ k, NoNil (laidS D G ps k)
  | 0 => h
  | k + 1 => fun kl zd => by
    show (putS (laidS D G ps k) (ps.getD k []) (addrOf G (k * 5))).atKey kl zd = zd ∨ ∃ g o, (putS (laidS D G ps k) (ps.getD k []) (addrOf G (k * 5))).atKey kl zd = addrOf g o
    unfold putS
    by_cases e : kl = .string (ps.getD k [])
    · subst e
      exact .inr ⟨G, k * 5, Maps.atKey_put_same (laidS_isMap hD G ps k) (by simp [WideAt.IsKeyLit]) _ _⟩
    · rw [Maps.atKey_put_other e]
      exact NoNil.laid hD h G ps k kl zd
theorem RevsF.noNil {w : World} : ∀ {H : List (Nat × List DX)} {D : DataW Unit}, RevsF w H D → NoNil D
  | [], _, h => by rw [show _ = _ from h]; exact fun _ _ => .inl rfl
  | (G, L) :: _, _, ⟨_, h1, _, h3⟩ => by rw [h3]; exact NoNil.laid h1.isMap h1.noNil G _ _
theorem NoNil.addr {D : DataW Unit} (h : NoNil D) {kl : Lit} {d : DataW Unit} (hd : ∀ zd, D.atKey kl zd = d) : ∃ g o, d = addrOf g o := by
  have h1 := h kl .nil
  have h2 := h kl (.map [])
  rw [hd] at h1 h2
  rcases h1 with h1 | h1
  · rcases h2 with h2 | h2
    · rw [h1] at h2; cases h2
    · exact h2
  · exact h1
theorem chain_small {H : List (Nat × List DX)} (h : ∀ x ∈ H, SmallD x.2) (s : Bs) : ∀ y ∈ chain H s, y.b.length ≤ 1000000 := by
  induction H with
  | nil => intro y hy; cases hy
  | cons x H ih =>
    obtain ⟨G, L⟩ := x
    intro y hy
    rcases List.mem_append.1 hy with hy | hy
    · unfold chainL at hy
      rw [List.mem_reverse] at hy
      obtain ⟨z, hz, rfl⟩ := List.mem_map.1 hy
      exact ((h (G, L) (by simp)).2 z (List.mem_filter.1 hz).1).2
    · exact ih (fun z hz => h z (by simp [hz])) y hy
theorem dropC_nil_val {c : List RX} {r : Nat} (h : dropC c r = []) : valC c r = none := by unfold valC; rw [h]
theorem dropC_cons_val {c c' : List RX} {y : RX} {r : Nat} (h : dropC c r = y :: c') : valC c r = if y.k = 3 then none else some y.b := by unfold valC; rw [h]

/-- What is laid so far: of each path that is no longer to come what the revision tells. -/
structure AtInv (H : List (Nat × List DX)) (r : Nat) (left : Lit → Bool) (l : List FX) : Prop where
  mem : ∀ s b, (s, b) ∈ flsX l ↔ left (.string s) = false ∧ valR H r s = some b
  dup : ((flsX l).map Prod.fst).Nodup
theorem AtInv.start {w : World} {H : List (Nat × List DX)} {D : DataW Unit} (h : RevsF w H D) (r : Nat) : AtInv H r (Maps.has D) [] := by
  refine ⟨fun s b => ⟨fun hm => by simp [flsX] at hm, fun ⟨h1, h2⟩ => ?_⟩, by simp [flsX]⟩
  rw [valR_nil h (show atS D s = .nil from Maps.atKey_of_not_has h1 _)] at h2
  cases h2
theorem strike {left : Lit → Bool} {s t : Bs} : (left (.string t) && !(Lit.string t).sameKey (.string s)) = false ↔ left (.string t) = false ∨ t = s := by
  have e : (Lit.string t).sameKey (.string s) = decide (t = s) := by
    by_cases h : t = s
    · subst h; simp [Lit.sameKey]
    · simp [Lit.sameKey, h]
  rw [e]
  cases left (.string t) <;> simp
theorem AtInv.skip {H : List (Nat × List DX)} {r : Nat} {left : Lit → Bool} {l : List FX} (h : AtInv H r left l) {s : Bs} (hv : valR H r s = none) : AtInv H r (fun z => left z && !z.sameKey (.string s)) l := by
  refine ⟨fun t b => ?_, h.dup⟩
  rw [h.mem, strike]
  constructor
  · rintro ⟨h1, h2⟩; exact ⟨.inl h1, h2⟩
  · rintro ⟨h1 | rfl, h2⟩
    · exact ⟨h1, h2⟩
    · rw [hv] at h2; cases h2
theorem AtInv.add {H : List (Nat × List DX)} {r : Nat} {left : Lit → Bool} {l : List FX} (h : AtInv H r left l) {x : FX} (hl : left (.string x.p.data.toList) = true) (hv : valR H r x.p.data.toList = some x.b) : AtInv H r (fun z => left z && !z.sameKey (.string x.p.data.toList)) (l ++ [x]) := by
  have e : flsX (l ++ [x]) = flsX l ++ [x.fl] := by unfold flsX; simp
  refine ⟨fun t b => ?_, ?_⟩
  · rw [e, List.mem_append, List.mem_singleton, h.mem, strike]
    constructor
    · rintro (⟨h1, h2⟩ | h1)
      · exact ⟨.inl h1, h2⟩
      · have h1 : t = x.p.data.toList ∧ b = x.b := by simpa [FX.fl] using h1
        obtain ⟨rfl, rfl⟩ := h1
        exact ⟨.inr rfl, hv⟩
    · rintro ⟨h1 | h1, h2⟩
      · exact .inl ⟨h1, h2⟩
      · subst h1
        rw [hv] at h2
        cases h2
        exact .inr rfl
  · rw [e, List.map_append, List.nodup_append]
    refine ⟨h.dup, by simp, fun a ha b hb e => ?_⟩
    have hb : b = x.p.data.toList := by simpa [FX.fl] using hb
    subst e hb
    obtain ⟨⟨s, c⟩, hm, e2⟩ := List.mem_map.1 ha
    have e2 : s = x.p.data.toList := e2
    rw [← e2, ((h.mem s c).1 hm).1] at hl
    cases hl
theorem AtInv.done {H : List (Nat × List DX)} {r : Nat} {left : Lit → Bool} {l l' : List FX} (h : AtInv H r left l) (h0 : ∀ kl, left kl = false) (hp : l'.Perm l) (hs : l'.Pairwise fun x y => ltB y.p.data.toList x.p.data.toList = false) : IsTree H r (flsX l') := by
  have hpf : (flsX l').Perm (flsX l) := hp.map _
  refine ⟨?_, fun s b => ?_⟩
  · have hd : ((flsX l').map Prod.fst).Nodup := (hpf.map Prod.fst).nodup_iff.2 h.dup
    rw [show flsX l' = l'.map FX.fl from rfl] at hd ⊢
    rw [List.map_map, List.Nodup, List.pairwise_map] at hd
    rw [Rises, List.pairwise_map]
    refine (hs.and hd).imp fun {x y} ⟨h1, h2⟩ => ?_
    cases h3 : ltB x.p.data.toList y.p.data.toList with
    | true => exact h3
    | false => exact absurd (ltB_tri _ _ h3 h1) h2
  · rw [hpf.mem_iff, h.mem]
    exact ⟨fun h1 => h1.2, fun h1 => ⟨h0 _, h1⟩⟩
end Go.Proofs.YtffhfllikamccaaGreatDoor
namespace Go.Proofs.YtffhfllikamccaaGreatDoor
open Go Go.RowKit Go.Shelf Go.Proofs Go.ChangeMaps Go.Maps Go.WideMaps

theorem hsort_nil (cap : Nat) (w : World) : Calls Tryz.prog 38 #[.slice none 0 cap, .func (.func 39) #[] #[]] w fun e w' => e = .returned (.tuple #[]) ∧ w' = w := by
  have hp := fun lim W => AnyF.pdqsortCmpFunc_none Tryz.pdqF none cap lim (.func (.func 39) #[] #[]) W
  change ∀ lim W, Calls Tryz.prog 58 _ _ _ at hp
  have hln : ∀ W, Calls Tryz.prog 59 #[.int .u64 0] W fun e w' => (∃ q : Int, e = .returned (.int .i64 q)) ∧ w' = W := fun W => (Tryz.bits_Len 0 W (by omega) (by omega)).mono fun _ _ ⟨h1, h2⟩ => ⟨⟨_, h1⟩, h2⟩
  go_enter Tryz.func38, Tryz.ntmps38
  go_wp2_with fail
  refine (hln _).mono ?_
  rintro e w1 ⟨⟨q, rfl⟩, rfl⟩
  go_wp2_with fail
  refine (hp _ _).mono ?_
  rintro e w2 ⟨rfl, rfl⟩
  go_wp2_with fail
  go_end0
  exact ⟨rfl, rfl⟩
theorem ptrD_ptr : ∀ (v : Value) (y : DataW Unit × List MemPlace), ptrD v = some y → ∃ c, v = Value.pointer c := fun v y h => by
  unfold ptrD at h
  split at h
  · exact ⟨_, rfl⟩
  · exact ⟨_, rfl⟩
  · cases h

theorem keyS {x : ByteArray} {kl : Lit} (h : keyOf Tryz.prog 9 (.string x) = some kl) : kl = .string x.data.toList := by
  simp [keyOf, Tryz.underlying9, mapKey] at h
  obtain ⟨_, h⟩ := h
  exact h.symm
theorem ChainAt.below {w w' : World} (hb : Below w.heap.size w w') : ∀ {c : List RX} {v : Value}, ChainAt w c v → ChainAt w' c v
  | [], _, h => h
  | _ :: _, _, ⟨G, o, A, n, bv, e, h1, h2, h3⟩ => ⟨G, o, A, n, bv, e, h1.keep fun hl => hb.block _ hl, h2.below hb, h3.below hb⟩
theorem iter_obj {w : World} {b r n cnt : Nat} {D : DataW Unit} {left : Lit → Bool} (h : w.ranges Tryz.prog 9 ptrD b r n D left cnt) : ∃ since seen c0, w.heap[r]? = some (.mapIter (some b) since seen c0) := by
  obtain ⟨_, _, since, seen, c0, _, _, _, _, hr, _⟩ := h
  exact ⟨since, seen, c0, hr⟩
theorem TreeMade.keepNC {base : Nat} {w w' : World} {v : Value} {l : List FX} {g : Nat} (h : TreeMade base w v l) (hg : w.grownBy w' (some g)) (hr : ∀ (cur : Array Value) (t : TypeId), w.heap[g]? ≠ some (Obj.cells cur t (0, 0))) : TreeMade base w' v l :=
  ⟨h.own.keepG hg fun q e cur => by cases e; exact hr cur _, fun x hx => (h.bod x hx).keep fun q cur hq => hg.block q (Array.getElem?_eq_some_iff.1 hq).1 fun e => by cases e; exact hr cur _ hq⟩

/-- One file more in a row of the call's own. -/
theorem wpList_append_fileG {ops : Array Oper} {rest : List Oper} {o : Oper} {a : Act} {w : World} {Q : Exit → Act → World → Prop} (hgd : o.guard = none) (s x : Operand)
    (ho : o.op = .call { callee := .builtin .append, args := #[s, x], argTypes := #[23, 23] })
    (base : Nat) (v : Value) (l : List FX) (f : FX) (g c : Nat) (hs : a.eval s = v) (hown : FilesOwn base w v l) (hx : a.eval x = .slice (some ⟨g, 0, none⟩) 1 c) (hb : BoxF w g f) (hl : l.length ≤ 1000000000) (hbase : base ≤ w.heap.size)
    (h : ∀ v' w', FilesOwn base w' v' (l ++ [f]) → w.grownBy w' v.ownBlock → wpList Tryz.prog ops Q rest (a.put o.dst v') w') : wpList Tryz.prog ops Q (o :: rest) a w := by
  obtain ⟨i0, hi, hz0, hz1, hz2⟩ := info_parts file_info
  refine wpList_append_own w hgd s x 23 ho base 65 i0 (.agg #[.string ⟨#[]⟩, .slice none 0 0]) 2 40 Tryz.underlying23 hi hz0 hz1 hz2 rfl (by decide) v l.length (fcells l) hs hown ⟨g, 0, none⟩ 1 c f.cs hx rfl ?_ ?_ (by unfold maxLen; omega) (by omega) hbase fun v' w' h1 h2 _ => h v' w' ?_ h2
  · intro j u hu
    rw [Go.WideShapes.add_plain, Nat.zero_add]
    match j, hu with
    | 0, hu => obtain rfl : Value.string f.p = u := by simpa [FX.cs] using hu
               exact hb.c0
    | 1, hu => obtain rfl : Value.slice f.A f.b.length f.c = u := by simpa [FX.cs] using hu
               exact hb.c1
    | j + 2, hu => simp [FX.cs] at hu
  · intro u hu
    simp only [FX.cs, List.mem_cons, List.mem_nil_iff, or_false] at hu
    rcases hu with rfl | rfl <;> rfl
  · show World.ownsRow _ _ _ _ _ _ _
    rw [List.length_append, fcells_append]; exact h1

theorem TreeMade.push {base : Nat} {W W' : World} {v v' : Value} {l : List FX} {x : FX} (h : TreeMade base W v l) (hx : BytesOwn W x.A x.b) (ho : FilesOwn base W' v' (l ++ [x])) (hg : W.grownBy W' v.ownBlock) : TreeMade base W' v' (l ++ [x]) := by
  have hk : ∀ {A : Option Addr} {b : Bs}, BytesOwn W A b → BytesOwn W' A b := fun hb => hb.keep fun g cur hh => hg.block g (Array.getElem?_eq_some_iff.1 hh).1 fun e => by
    obtain ⟨_, cur', hh'⟩ := h.own.row e.symm
    rw [hh] at hh'
    cases hh'
  refine ⟨ho, fun y hy => ?_⟩
  rcases List.mem_append.1 hy with hy | hy
  · exact hk (h.bod y hy)
  · rw [List.mem_singleton] at hy; subst hy; exact hk hx
def AtPost (H : List (Nat × List DX)) (r : Nat) (w : World) (e : Ending) (w' : World) : Prop := ∃ v l, e = .returned (.tuple #[v, .int .i64 0]) ∧ TreeMade w.heap.size w' v l ∧ IsTree H r (flsX l) ∧ l.length ≤ 1000000000 ∧ Below w.heap.size w w'

set_option maxRecDepth 100000 in
set_option maxHeartbeats 8000000 in
theorem hat_any {base : Nat} {w : World} {hb n : Nat} {nm : List FX} {M : Bs → Nat} {nv cv : Value} {mb k : Nat} {D : DataW Unit} {H : List (Nat × List DX)} (h : HistAt base w hb n nm M nv cv mb k D H) {r : Nat} (hr : r ≤ n) (hn : n ≤ 99999) :
    Calls Tryz.prog 16 #[.pointer (some ⟨hb, 0, none⟩), .int .i64 r] w (AtPost H r w) := by
  obtain ⟨Ac, cc, rfl, hcc⟩ := h.commit_slice
  have c1 := cell_of_row w hb 1 _ _ _ h.heap
  have c2 := cell_of_row w hb 2 _ _ _ h.heap
  have HREF := Lib.hid (hrefusal_any hb Ac n cc r hr w c1)
  have hown : w.ownsMap Tryz.prog 9 ptrD mb k D := h.map
  have HRM := Lib.hid h.room
  have HSZ := Lib.hid hown.size_le
  have HF := Lib.hid h.full
  have HSM := Lib.hid h.sm
  have hml := hown.lt
  clear h c1
  go_enter Tryz.func16, Tryz.ntmps16
  go_wp2_with fail
  go_step3
  go_wp2_with fail
  refine HREF.out.mono ?_
  rintro e w1 ⟨rfl, hw1⟩
  have hw1 := hw1.symm
  subst hw1
  go_wp2_with fail
  go_step3
  go_wp2_with (at_range; refine wpList_range_own _ rfl _ 72 rfl 9 83 hlaw Tryz.underlying72 ptrD mb k D rfl hown ?_; intro w0 hrg0 hg0 hs0)
  go_frame
  have hnl := Lib.hid HF.out.noNil
  have hb0 : Below w.heap.size w w0 := (Below.refl _ _).grown hg0 (Nat.le_refl _) (fun j hj => by cases hj)
  clear hg0 hs0 hown c2 HREF
  go_loopg [7] (Maps.size D) (fun g v wr => ∃ (left : Lit → Bool) (l : List FX), wr.ranges Tryz.prog 9 ptrD mb w.heap.size k D left g ∧ TreeMade w.heap.size wr v l ∧ Below w.heap.size w wr ∧ Hid (AtInv H r left l) ∧ l.length + g ≤ Maps.size D)
  case atStart => exact ⟨_, [], hrg0, ⟨World.ownsRow_nil _ _ _ _, fun x hx => by cases hx⟩, hb0, Lib.hid (AtInv.start HF.out r), by simp⟩
  case round =>
    obtain ⟨left, l, hrg, htr, hbr, hin, hln⟩ := hrel
    have HTR := Lib.hid htr
    have HBR := Lib.hid hbr
    clear htr hbr hrg0 hb0
    go_wp2_with (at_next; refine wpList_next_ranges _ rfl _ rfl 9 hlaw ptrD Value.string Value.pointer (fun _ _ h => Maps.keyOf_string_inv Tryz.underlying9 h) (fun v y h => ptrD_ptr v y h) mb w.heap.size k D _ _ rfl hrg ?_ ?_)
    · intro hc0 hl0
      subst hc0
      have HL0 := Lib.hid hl0
      have hls : l.length ≤ 1000000000 := by have := HRM.out; have := HSZ.out; omega
      clear hl0 hrg
      rcases HTR.out.own.form with ⟨hv, he⟩ | ⟨g, cap, cur, hv, hgb, hgc, hgl, hcm, hsz⟩
      · subst hv he
        go_wp2_with fail
        refine (hsort_nil 0 _).mono ?_
        rintro e w2 ⟨rfl, hw2⟩
        have hw2 := hw2.symm
        subst hw2
        go_wp2_with fail
        rw [Exit.noGoto_ret]
        go_ret2
        exact ⟨_, [], rfl, HTR.out, AtInv.done hin.out HL0.out (List.Perm.refl _) List.Pairwise.nil, Nat.zero_le _, HBR.out⟩
      · subst hv
        have HS := Lib.hid (hsort_any w.heap.size l g cap wr HTR.out.own hls)
        clear hgb hgc hgl hcm hsz
        go_wp2_with fail
        refine HS.out.mono ?_
        rintro e w2 ⟨rfl, l', hp, hso, hfo, hgr⟩
        have HPM := Lib.hid hp
        have HSO := Lib.hid hso
        have HFO := Lib.hid hfo
        have HGR := Lib.hid hgr
        clear hp hso hfo hgr
        go_wp2_with fail
        rw [Exit.noGoto_ret]
        go_ret2
        refine ⟨_, l', rfl, ⟨HFO.out, fun x hx => (HTR.out.bod x (HPM.out.mem_iff.1 hx)).keep fun q cur2 hq => HGR.out.block q (Array.getElem?_eq_some_iff.1 hq).1 fun e => ?_⟩, AtInv.done hin.out HL0.out HPM.out HSO.out, by rw [HPM.out.length_eq]; exact hls, HBR.out.grown HGR.out HBR.out.size fun j hj => (HTR.out.own.row hj).1⟩
        obtain ⟨_, cur3, h3⟩ := HTR.out.own.row e.symm
        rw [hq] at h3; cases h3
    · intro x c kl yd yp w1 cnt1 hkx hlx hcy hat hrg1 hlt hg1 hs1 hen
      obtain rfl := keyS hkx
      have hcv := ptrOf_of hcy
      have hch := HF.out.chain x.data.toList
      rw [show atS D x.data.toList = yd from hat _, ← hcv] at hch
      obtain ⟨ga, oa, rfl⟩ := hnl.out.addr hat
      rw [ptrOf_addr] at hcv
      have hcv : c = some ⟨ga, oa, none⟩ := by cases hcv; rfl
      subst hcv
      have hbr1 : Below w.heap.size w w1 := HBR.out.grown hg1 HBR.out.size (fun j hj => by cases hj; exact Nat.le_refl _)
      have hch1 := hch.below hbr1
      have htr1 : TreeMade w.heap.size w1 u7 l := HTR.out.keepNC hg1 (fun cur t hq => by
        obtain ⟨_, _, _, h3⟩ := iter_obj hrg
        rw [hq] at h3; cases h3)
      have hsm := chain_small HSM.out x.data.toList
      have HLX := Lib.hid hlx
      have HBR1 := Lib.hid hbr1
      have HCH1 := Lib.hid hch1
      have HTR1 := Lib.hid htr1
      have HSX := Lib.hid hsm
      have HRG1 := Lib.hid hrg1
      clear hkx hlx hcy hat hrg1 hg1 hs1 hch hbr1 hch1 htr1 hsm hrg
      go_wp2_with fail
      go_loopg [9] ((chain H x.data.toList).length) (fun g2 v wy => ∃ (ch : List RX), ch.length = g2 ∧ ch ≠ [] ∧ Hid (ChainAt w1 ch v) ∧ Hid (dropC ch r = dropC (chain H x.data.toList) r) ∧ Hid (∀ y ∈ ch, y.b.length ≤ 1000000) ∧ w1 = wy)
      case atStart =>
        refine ⟨chain H x.data.toList, rfl, fun e => ?_, HCH1, Lib.hid rfl, HSX, rfl⟩
        have h3 := HCH1.out
        rw [e] at h3
        cases h3
      case round =>
        obtain ⟨ch, hcl, hcn, hca, hdr, hcs, rfl⟩ := hrel
        cases ch with
        | nil => exact absurd rfl hcn
        | cons y c' =>
          obtain ⟨G, o, A, nn, bv, rfl, hrec, hbo, hrest⟩ := hca.out
          obtain ⟨g3, rfl⟩ : ∃ g3, gk = g3 + 1 := ⟨c'.length, by rw [← hcl]; rfl⟩
          have r0 := hrec.kind
          have r2 := hrec.body
          have r3 := hrec.rev
          have r4 := hrec.before
          have HBO := Lib.hid hbo
          have HRE := Lib.hid hrest
          have HYB := Lib.hid (hcs.out y (by simp))
          clear hrec hbo hrest hcn hca
          by_cases hl2 : r < y.r
          · have q1 : ((r : Int) < (y.r : Int)) := by omega
            have HDR := Lib.hid ((dropC_late hl2).symm.trans hdr.out)
            cases c' with
            | nil =>
              have hbv : bv = .pointer none := HRE.out
              subst hbv
              go_wp2_with fail
              go_roundg cnt1
              case measure => exact hlt
              case rel => exact ⟨_, l, HRG1.out, HTR1.out, HBR1.out, Lib.hid (hin.out.skip (dropC_nil_val HDR.out.symm)), by omega⟩
            | cons z c2 =>
              obtain ⟨G2, o2, A2, n2, bv2, rfl, h5⟩ := HRE.out
              clear h5
              go_wp2_with fail
              go_roundg g3
              case measure => omega
              case rel => exact ⟨z :: c2, by simpa using hcl, by simp, HRE, HDR, Lib.hid fun q hq => hcs.out q (List.mem_cons_of_mem _ hq), rfl⟩
          · have q1 : ¬ ((r : Int) < (y.r : Int)) := by omega
            have HDR := Lib.hid ((dropC_here hl2).symm.trans hdr.out)
            by_cases hk3 : y.k = 3
            · have q3 : (y.k != 3) = false := by simp [hk3]
              have hv : valR H r x.data.toList = none := by
                unfold valR; rw [dropC_cons_val HDR.out.symm, if_pos hk3]
              have HV := Lib.hid hv
              clear hv
              go_wp2_with fail
              go_roundg cnt1
              case measure => exact hlt
              case rel => exact ⟨_, l, HRG1.out, HTR1.out, HBR1.out, Lib.hid (hin.out.skip HV.out), by omega⟩
            · have q3 : (y.k != 3) = true := by simp [hk3]
              have hv : valR H r x.data.toList = some y.b := by
                unfold valR; rw [dropC_cons_val HDR.out.symm, if_neg hk3]
              have HV := Lib.hid hv
              clear hv
              go_wp2_with fail
              refine (bclone_any A nn y.b w1 HBO.out.at_ HYB.out).mono ?_
              rintro e w2 ⟨A', c2, rfl, hbo2, hb2⟩
              have HBO2 := Lib.hid hbo2
              have HB2 := Lib.hid hb2
              have HB12 := Lib.hid (HBR1.out.trans (hb2.mono HBR1.out.size))
              have HTR2 := Lib.hid (HTR1.out.below hb2)
              have hls : l.length ≤ 1000000000 := by have := HRM.out; have := HSZ.out; omega
              clear hbo2 hb2 r0 r2 r3 r4
              go_wp2_with (at_builtin; refine wpList_append_fileG rfl _ _ rfl w.heap.size _ l ⟨x, A', c2, y.b⟩ w2.heap.size 1 rfl (HTR2.out.own.below (below_box w2 _)) rfl (BoxF.new w2 ⟨x, A', c2, y.b⟩ _) hls (Nat.le_trans HB12.out.size (below_box w2 _).size) ?_; intro v' w' hown' hgrow)
              have HTR3 := Lib.hid (HTR2.out.below (below_box w2 (.cells #[.string x, .slice A' y.b.length c2] 65)))
              have hrg3 := ((HRG1.out.kept (grownN HB2.out none) (by simp) (by simp)).alloc (.cells #[.string x, .slice A' y.b.length c2] 65))
              have hrg4 := hrg3.kept hgrow (row_ne_low HTR3.out.own hml) (row_ne_iter HTR3.out.own hrg3)
              go_roundg cnt1
              case measure => exact hlt
              case rel => exact ⟨_, l ++ [⟨x, A', c2, y.b⟩], hrg4, HTR3.out.push (HBO2.out.below (below_box w2 _)) hown' hgrow, (HB12.out.trans ((below_box w2 _).mono HB12.out.size)).grown hgrow (Nat.le_trans HB12.out.size (below_box w2 _).size) fun j ej => (HTR3.out.own.row ej).1, Lib.hid (hin.out.add (x := ⟨x, A', c2, y.b⟩) HLX.out HV.out), by rw [List.length_append, List.length_singleton]; omega⟩
end Go.Proofs.YtffhfllikamccaaGreatDoor
namespace Go.Proofs.YtffhfllikamccaaGreatDoor
open Go Go.RowKit Go.Shelf Go.Proofs
attribute [local go_sem] Oper.semAt_some

theorem fls_take_eqG {a b : List FX} {k : Nat} {x y : FX} (h : (flsX a).take k = (flsX b).take k) (hx : a[k]? = some x) (hy : b[k]? = some y) (h1 : (x.p.toList == y.p.toList) = true) (h2 : (x.b == y.b) = true) : (flsX a).take (k + 1) = (flsX b).take (k + 1) := by
  rw [List.take_add_one, List.take_add_one, h, flsX_getElem?, flsX_getElem?, hx, hy]
  rw [beq_iff_eq, ByteArray.toList_eq, ByteArray.toList_eq] at h1
  have e : x.fl = y.fl := Prod.ext h1 (beq_iff_eq.1 h2)
  show _ ++ (some x.fl).toList = _ ++ (some y.fl).toList
  rw [e]
theorem fls_ne_atG {a b : List FX} {k : Nat} {x y : FX} (hx : a[k]? = some x) (hy : b[k]? = some y) (h : (x.p.toList == y.p.toList) = false ∨ (x.b == y.b) = false) : decide (flsX a = flsX b) = false := decide_eq_false fun e => by
  have e2 : (flsX a)[k]? = (flsX b)[k]? := by rw [e]
  rw [flsX_getElem?, flsX_getElem?, hx, hy] at e2
  have e3 : x.fl = y.fl := Option.some.inj e2
  rcases h with h | h
  · rw [beq_eq_false_iff_ne, ByteArray.toList_eq, ByteArray.toList_eq] at h
    exact h (congrArg (·.1) e3)
  · rw [beq_eq_false_iff_ne] at h
    exact h (congrArg (·.2) e3)

set_option maxRecDepth 100000 in
set_option maxHeartbeats 8000000 in
theorem refsameG_any (a b : List FX) (A B : Option Addr) (ca cb : Nat) (w : World) (ha : TreeAt w A ca a) (hb : TreeAt w B cb b) (la : a.length ≤ 1000000000) (_lb : b.length ≤ 1000000000) :
    Calls Tryz.prog 20 #[.slice A a.length ca, .slice B b.length cb] w fun e w' => e = .returned (.bool (decide (flsX a = flsX b))) ∧ Below w.heap.size w w' := by
  have HA := Lib.hid ha; clear ha
  have HB := Lib.hid hb; clear hb
  by_cases hlen : a.length = b.length
  · have h0 : ((a.length : Int) == (b.length : Int)) = true := by rw [beq_iff_eq]; omega
    go_enter Tryz.func20, Tryz.ntmps20
    go_wp2_with fail
    go_loopw [5] (fun i wr => ∃ (k : Nat), k ≤ a.length ∧ i = .int .i64 k ∧ (flsX a).take k = (flsX b).take k ∧ Below w.heap.size w wr) (fun i _ => a.length - (intOf i).toNat)
    case atStart => exact ⟨0, Nat.zero_le _, rfl, rfl, Below.refl _ _⟩
    case round =>
      obtain ⟨k, hk, rfl, heq, hbr⟩ := hrel
      by_cases h1 : k < a.length
      · obtain ⟨x, hx⟩ : ∃ x, a[k]? = some x := ⟨_, List.getElem?_eq_getElem h1⟩
        obtain ⟨y, hy⟩ : ∃ y, b[k]? = some y := ⟨_, List.getElem?_eq_getElem (by omega)⟩
        have htA := HA.out.below hbr
        have htB := HB.out.below hbr
        obtain ⟨g, o, eA, hr⟩ := htA.row (by omega)
        subst eA
        obtain ⟨g', o', eB, hr'⟩ := htB.row (by omega)
        subst eB
        obtain ⟨c1, c2⟩ := hr k x hx
        obtain ⟨d1, d2⟩ := hr' k y hy
        have s1 := run_str wr.drew x.A x.c x.b ((htA.files x (List.mem_of_getElem? hx)).below (below_drew1 wr))
        have s2 := run_str wr.drew y.A y.c y.b ((htB.files y (List.mem_of_getElem? hy)).below (below_drew1 wr))
        have he := mkB_eq x.b y.b
        have k1 : (k : Int) < (a.length : Int) := by omega
        have k2 : (k : Int) < (b.length : Int) := by omega
        have wk : IntKind.i64.wrap (k : Int) = (k : Int) := IntWalk.i64_in _ (by omega)
        have HX := Lib.hid hx; clear hx
        have HY := Lib.hid hy; clear hy
        have HEQ := Lib.hid heq; clear heq
        clear hr hr' htA htB
        cases hq : (x.p.toList == y.p.toList) with
        | false =>
          have hf := fls_ne_atG HX.out HY.out (.inl hq)
          have HF := Lib.hid hf; clear hf
          go_wp2_with fail
          go_region
          go_wp2_with fail
          go_ret
          exact ⟨by rw [HF.out]; rfl, hbr.drew⟩
        | true =>
          cases hq2 : (x.b == y.b) with
          | false =>
            have hf := fls_ne_atG HX.out HY.out (.inr hq2)
            have HF := Lib.hid hf; clear hf
            rw [hq2] at he
            go_wp2_with fail
            go_region
            go_wp2_with fail
            go_ret
            exact ⟨by rw [HF.out]; rfl, hbr.drew⟩
          | true =>
            have hn := fls_take_eqG HEQ.out HX.out HY.out hq hq2
            have HN := Lib.hid hn; clear hn
            rw [hq2] at he
            go_wp2_with fail
            go_region
            go_wp2_with fail
            go_roundw
            case rel => exact ⟨k + 1, by omega, by go_num, HN.out, hbr.drew⟩
            case measure => simp [intOf]; omega
      · obtain rfl : k = a.length := by omega
        have hf : decide (flsX a = flsX b) = true := decide_eq_true (by
          rw [List.take_of_length_le (by rw [flsX_length]; omega), List.take_of_length_le (by rw [flsX_length]; omega)] at heq
          exact heq)
        have HF := Lib.hid hf; clear hf heq
        go_wp2_with fail
        go_ret
        exact ⟨by rw [HF.out]; rfl, hbr⟩
  · have h0 : ((a.length : Int) == (b.length : Int)) = false := by rw [beq_eq_false_iff_ne]; omega
    have hf : decide (flsX a = flsX b) = false := decide_eq_false fun e => hlen (by have := congrArg List.length e; rwa [flsX_length, flsX_length] at this)
    have HF := Lib.hid hf; clear hf
    go_enter Tryz.func20, Tryz.ntmps20
    go_wp2_with fail
    go_ret
    exact ⟨by rw [HF.out]; rfl, Below.refl _ _⟩
end Go.Proofs.YtffhfllikamccaaGreatDoor
