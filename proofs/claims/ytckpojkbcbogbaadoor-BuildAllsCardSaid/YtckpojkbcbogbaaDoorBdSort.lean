/-
  The program's sorting of targets by their names (slices.SortFunc under All's closure, by cmp.Compare).
-/
import Derived.Test.YtckpojkbcbogbaaDoorBdParse
import Derived.Test.YtckpojkbcbogbaaDoorSortG
import Derived.Test.YtckpojkbcbogbaaDoorShelf
import Derived.Shelf.SlSortCmp.NoneTotal
namespace Go.Proofs.YtckpojkbcbogbaaDoor
open Go Go.RowKit Go.Shelf Go.Proofs
attribute [local go_sem] Oper.semAt_some

theorem bnan_any (x : ByteArray) (w : World) : Calls Tryd.prog 52 #[.string x] w fun e w' => e = .returned (.bool false) ∧ w' = w := by
  have h1 : (x.toList == x.toList) = true := beq_self_eq_true _
  have h2 : (x.toList != x.toList) = false := bne_self_eq_false _
  go_enter Tryd.func52, Tryd.ntmps52
  go_wp2_with fail
  go_ret
  exact ⟨rfl, rfl⟩
theorem bcompare_any (x y : ByteArray) (w : World) : Calls Tryd.prog 26 #[.string x, .string y] w fun e w' => e = .returned (.int .i64 (Lib.compareBytes x.data.toList y.data.toList)) ∧ w' = w := by
  have lx : x.toList = x.data.toList := ByteArray.toList_eq _
  have ly : y.toList = y.data.toList := ByteArray.toList_eq _
  rcases cmpB_cases x.data.toList y.data.toList with ⟨e, h⟩ | ⟨e, h⟩ | ⟨e, h⟩
  · have HE := Lib.hid e
    have l1 : Op.bytesLess x.toList y.toList = true := by rw [lx, ly, ltB_def]; exact h
    have l2 : (x.toList == y.toList) = false := by rw [lx, ly]; rw [beq_eq_false_iff_ne]; intro e2; rw [e2, ltB_irrefl] at h; cases h
    clear e h lx ly
    go_enter Tryd.func26, Tryd.ntmps26
    go_wp2_with fail
    refine (bnan_any _ _).mono ?_
    rintro e w1 ⟨rfl, hw⟩
    subst hw
    go_wp2_with fail
    refine (bnan_any _ _).mono ?_
    rintro e w1 ⟨rfl, hw⟩
    subst hw
    go_wp2_with fail
    go_ret
    exact ⟨by rw [HE.out]; rfl, rfl⟩
  · have HE := Lib.hid e
    have l1 : Op.bytesLess x.toList y.toList = false := by rw [lx, ly, ltB_def]; rw [h, ltB_irrefl]
    have l2 : (x.toList == y.toList) = true := by rw [lx, ly]; rw [h]; exact beq_self_eq_true _
    clear e h lx ly
    go_enter Tryd.func26, Tryd.ntmps26
    go_wp2_with fail
    refine (bnan_any _ _).mono ?_
    rintro e w1 ⟨rfl, hw⟩
    subst hw
    go_wp2_with fail
    refine (bnan_any _ _).mono ?_
    rintro e w1 ⟨rfl, hw⟩
    subst hw
    go_wp2_with fail
    go_ret
    exact ⟨by rw [HE.out]; rfl, rfl⟩
  · have HE := Lib.hid e
    have l1 : Op.bytesLess x.toList y.toList = false := by rw [lx, ly, ltB_def]; exact ltB_asymm _ _ h
    have l2 : (x.toList == y.toList) = false := by rw [lx, ly]; rw [beq_eq_false_iff_ne]; intro e2; rw [e2, ltB_irrefl] at h; cases h
    clear e h lx ly
    go_enter Tryd.func26, Tryd.ntmps26
    go_wp2_with fail
    refine (bnan_any _ _).mono ?_
    rintro e w1 ⟨rfl, hw⟩
    subst hw
    go_wp2_with fail
    refine (bnan_any _ _).mono ?_
    rintro e w1 ⟨rfl, hw⟩
    subst hw
    go_wp2_with fail
    go_ret
    exact ⟨by rw [HE.out]; rfl, rfl⟩
def cmpG (x y : TX) : Int := Lib.compareBytes x.n.data.toList y.n.data.toList
theorem cmpG_lt (x y : TX) : Go.Proofs.ltOf cmpG x y = ltB x.n.data.toList y.n.data.toList := by
  unfold Go.Proofs.ltOf cmpG
  rcases cmpB_cases x.n.data.toList y.n.data.toList with ⟨e, h⟩ | ⟨e, h⟩ | ⟨e, h⟩
  · rw [e, h]; rfl
  · rw [e, h, ltB_irrefl]; rfl
  · rw [e, ltB_asymm _ _ h]; rfl
theorem cmpG_swo : Go.Sort.SWO (Go.Proofs.ltOf cmpG) := by
  refine ⟨fun x => ?_, fun x y z h1 h2 => ?_, fun x y z h1 h2 => ?_⟩
  · rw [cmpG_lt, ltB_irrefl]
  · rw [cmpG_lt] at *; exact ltB_trans _ _ _ h1 h2
  · rw [cmpG_lt] at *
    cases h : ltB x.n.data.toList z.n.data.toList with
    | false => rfl
    | true =>
      cases h3 : ltB y.n.data.toList x.n.data.toList with
      | true => rw [ltB_trans _ _ _ h3 h] at h2; cases h2
      | false => rw [ltB_tri _ _ h1 h3, h2] at h; cases h

theorem bcmp_any (x y : TX) (W : World) : Calls Tryd.prog 25 #[.agg x.cs.toArray, .agg y.cs.toArray] W fun e w' => e = .returned (.int .i64 (cmpG x y)) ∧ ∃ q os', w' = Go.Sort.grow (W.drewN q) os' := by
  have hcon := fun W' => bcompare_any x.n y.n W'
  unfold cmpG
  generalize Lib.compareBytes x.n.data.toList y.n.data.toList = r at hcon ⊢
  unfold TX.cs
  go_enter Tryd.func25, Tryd.ntmps25
  go_wp2_with fail
  refine (hcon _).mono ?_
  rintro e w' ⟨rfl, hw'⟩
  subst hw'
  go_wp2_with fail
  go_ret
  exact ⟨rfl, 0, _, by rw [Go.Sort.alloc_eq_grow, Go.Sort.alloc_eq_grow, Go.Sort.grow_grow]; rfl⟩

/-- Files' cells, as the sort sees them. -/
def OwnG (base : Nat) (W : World) (v : Value) (l : List TX) : Prop := W.ownsRow base 37 3 v l.length (gcells l)
theorem flatG (l : List TX) : (Go.Sort.flatK TX.cs 3 l.toArray).toList = gcells l := by
  have hsz : (Go.Sort.flatK TX.cs 3 l.toArray).size = l.length * 3 := by simp
  apply List.ext_getElem?
  intro t
  by_cases ht : t < l.length * 3
  · have e1 := Go.Sort.get_flatK TX.cs 3 l.toArray t (by simpa using ht)
    obtain ⟨x, hx⟩ : ∃ x, l[t / 3]? = some x := ⟨_, List.getElem?_eq_getElem (by omega)⟩
    obtain ⟨c1, c2, c3⟩ := gcells_at l (t / 3) x hx
    have hx2 : l.toArray[t / 3]! = x := by
      rw [getElem!_pos _ _ (by simp; omega)]
      simpa using (List.getElem?_eq_some_iff.1 hx).2
    rw [hx2] at e1
    rw [Array.getElem?_toList, Array.getElem?_eq_getElem (by omega), ← getElem!_pos _ t (by omega), e1]
    rcases (show t % 3 = 0 ∨ t % 3 = 1 ∨ t % 3 = 2 by omega) with h | h | h
    · have e2 : t = t / 3 * 3 := by omega
      rw [h]
      conv => rhs; rw [e2]
      rw [c1]; rfl
    · have e2 : t = t / 3 * 3 + 1 := by omega
      rw [h]
      conv => rhs; rw [e2]
      rw [c2]; rfl
    · have e2 : t = t / 3 * 3 + 2 := by omega
      rw [h]
      conv => rhs; rw [e2]
      rw [c3]; rfl
  · rw [List.getElem?_eq_none (by simp; omega), List.getElem?_eq_none (by rw [gcells_length]; omega)]

theorem sort_heap {w : World} {g n : Nat} {os : Array Obj} {cur F : Array Value} {e : TypeId} {fr : Nat × Nat} (hb : w.heap[g]? = some (.cells cur e fr)) :
    (Go.Sort.grow (Go.Sort.putRow id (Go.Sort.ahead w n) g 0 F) os).heap[g]? = some (.cells (Go.Sort.putCells id 0 F cur) e fr) := by
  have hg : g < w.heap.size := (Array.getElem?_eq_some_iff.1 hb).1
  rw [Go.Sort.heap_grow_old _ _ (by simpa using hg)]
  simp [Go.Sort.putRow, Go.Sort.mapBlock, Go.Sort.ahead, Array.getElem?_modify, hb, Go.Sort.onCells]
theorem sort_grown {w : World} {g n : Nat} {os : Array Obj} {F : Array Value} : w.grownBy (Go.Sort.grow (Go.Sort.putRow id (Go.Sort.ahead w n) g 0 F) os) (some g) := by
  refine ⟨rfl, rfl, rfl, by simp, fun k hk hne => ?_⟩
  rw [Go.Sort.heap_grow_old _ _ (by simpa using hk)]
  have : g ≠ k := fun e => hne (by rw [e])
  simp [Go.Sort.putRow, Go.Sort.mapBlock, Go.Sort.ahead, Array.getElem?_modify, this]
theorem sort_take (cur F : Array Value) (h : F.size ≤ cur.size) : (Go.Sort.putCells id 0 F cur).toList.take F.size = F.toList := by
  apply List.ext_getElem?
  intro j
  by_cases hj : j < F.size
  · rw [List.getElem?_take_of_lt hj, Array.getElem?_toList]
    simp [Go.Sort.putCells, hj, show j < cur.size by omega]
  · rw [List.getElem?_take_eq_none (by omega), List.getElem?_eq_none (by simp; omega)]

theorem sort_holds {w : World} {g : Nat} {cur : Array Value} {e : TypeId} {F : Array Value} (hb : w.heap[g]? = some (.cells cur e (0, 0))) (ht : cur.toList.take F.size = F.toList) : Go.Sort.Holds id w g 0 F := by
  intro j hj
  refine ⟨?_, by simp [World.frozen?, hb]⟩
  have h1 : (cur.toList.take F.size)[j]? = F.toList[j]? := by rw [ht]
  rw [List.getElem?_take_of_lt hj] at h1
  rw [cell_of_row w g _ _ _ _ hb, Nat.zero_add, ← Array.getElem?_toList, h1]
  simp [hj]

/-- What the sort leaves: the same files, by rising paths. -/
def SortPost (base : Nat) (l : List TX) (v : Value) (w : World) (e : Ending) (w' : World) : Prop :=
  e = .returned (.tuple #[]) ∧ ∃ l', l'.Perm l ∧ l'.Pairwise (fun x y => ltB y.n.data.toList x.n.data.toList = false) ∧ OwnG base w' v l' ∧ w.grownBy w' v.ownBlock

set_option maxHeartbeats 2000000 in
theorem bsort_any (base : Nat) (l : List TX) (g cap : Nat) (w : World) (h : OwnG base w (.slice (some ⟨g, 0, none⟩) l.length cap) l) (hl : l.length ≤ 1000000000) :
    Calls Tryd.prog 24 #[.slice (some ⟨g, 0, none⟩) l.length cap, .func (.func 25) #[] #[]] w (SortPost base l (.slice (some ⟨g, 0, none⟩) l.length cap) w) := by
  obtain ⟨hl0, hr⟩ := h
  rcases hr with ⟨h0, _⟩ | ⟨g', cap', cur, hv, hbase, hb, h1, h2, h3, h4⟩
  · cases h0
  cases hv
  have hH : Go.Sort.HoldsK TX.cs 3 w g 0 l.toArray := sort_holds hb (by rw [flatG]; simpa using h4)
  have hgl : g < w.heap.size := (Array.getElem?_eq_some_iff.1 hb).1
  have eg : ∀ args w, (callFunc 25 args).run Tryd.prog w = .ok (.enter 25 args) w := enters_of Tryd.func25 (by kernel_rfl) rfl
  have hR : Go.Proofs.RowK TX.cs 3 w g 0 l.toArray := ⟨fun _ => rfl, fun x u hu => by
    simp only [TX.cs, List.mem_cons, List.mem_nil_iff, or_false] at hu
    rcases hu with rfl | rfl | rfl <;> rfl, hH, hgl⟩
  have hp := AnyQ.pdqsortCmpFunc_all Tryd.pdqG 3 Tryd.isAgg37 Tryd.sizeOf37 TX.cs cmpG 25 #[] cmpG_swo g 0 cap l.toArray w eg (fun m os dk hs x y => bcmp_any x y _) hR (l.length + 1) 0 l.length (Lib.bitLen l.length) l.toArray w (by omega) rfl (SWK.start hH) (Nat.zero_le _) (by simp) (by simp; omega) (Nat.lt_of_le_of_lt (Lib.bitLen_le l.length 62 (by omega) (by omega)) (by omega)) (Or.inl rfl)
  have hsz := Go.Sort.pdq_sorts (ltOf cmpG) cmpG_swo l.toArray 0 l.length (Lib.bitLen l.length) true true (Nat.zero_le _) (by simp) (Or.inl rfl)
  change Calls Tryd.prog 50 _ _ _ at hp
  have hln : ∀ W, Calls Tryd.prog 51 #[.int .u64 (l.length : Int)] W fun e w' => e = .returned (.int .i64 (Lib.bitLen l.length : Nat)) ∧ w' = W := fun W => by
    have h := Tryd.bits_Len (l.length : Int) W (by omega) (by omega)
    rwa [Int.toNat_natCast] at h
  have wr : IntKind.u64.wrap (l.length : Int) = l.length := by simp [IntKind.wrap, IntKind.bits, IntKind.signed]; omega
  have HP := Lib.hid hp
  have HSZ := Lib.hid hsz
  have HB := Lib.hid hb
  have H4 := Lib.hid h4
  have H3 := Lib.hid h3
  have HBS := Lib.hid hbase
  clear hp hsz hb h4 hH hR eg h3
  go_enter Tryd.func24, Tryd.ntmps24
  go_wp2_with fail
  refine (hln _).mono ?_
  rintro e w1 ⟨rfl, rfl⟩
  go_wp2_with fail
  refine HP.out.mono ?_
  rintro e w2 ⟨rfl, hw2⟩
  go_wp2_with fail
  go_end0
  obtain ⟨n, os, rfl⟩ := hw2
  obtain ⟨⟨hs1, _, hpm⟩, hso⟩ := HSZ.out
  have hs2 : (Go.Sort.pdq (ltOf cmpG) l.toArray 0 l.length (Lib.bitLen l.length) true true).size = l.length := by rw [hs1]; simp
  refine ⟨rfl, (Go.Sort.pdq (ltOf cmpG) l.toArray 0 l.length (Lib.bitLen l.length) true true).toList, ?_, ?_, ?_, ?_⟩
  · simpa [Array.extract_eq_self_of_le, hs2] using hpm
  · rw [List.pairwise_iff_getElem]
    intro i j hi hj hij
    rw [Array.length_toList] at hi hj
    have h := hso i j (Nat.zero_le _) hij (by omega)
    rw [cmpG_lt, getElem!_pos _ i hi, getElem!_pos _ j hj] at h
    simpa using h
  · have hfx := flatG (Go.Sort.pdq (ltOf cmpG) l.toArray 0 l.length (Lib.bitLen l.length) true true).toList
    rw [Array.toArray_toList] at hfx
    have hfs : (Go.Sort.flatK TX.cs 3 (Go.Sort.pdq (ltOf cmpG) l.toArray 0 l.length (Lib.bitLen l.length) true true)).size = l.length * 3 := by simp [hs2]
    have hlen : (Go.Sort.pdq (ltOf cmpG) l.toArray 0 l.length (Lib.bitLen l.length) true true).toList.length = l.length := by rw [Array.length_toList, hs2]
    refine ⟨by rw [gcells_length], .inr ⟨g, cap, _, congrArg (fun q => Value.slice (some ⟨g, 0, none⟩) q cap) hlen.symm, HBS.out, sort_heap HB.out, Nat.le_trans (Nat.le_of_eq hlen) h1, h2, by simp [Go.Sort.putCells, H3.out], ?_⟩⟩
    rw [← hfx, Array.length_toList, hs2, ← hfs]
    exact sort_take _ _ (by have := H3.out; omega)
  · exact sort_grown
theorem bsort_nil (cap : Nat) (w : World) : Calls Tryd.prog 24 #[.slice none 0 cap, .func (.func 25) #[] #[]] w fun e w' => e = .returned (.tuple #[]) ∧ w' = w := by
  have hp := fun lim W => AnyF.pdqsortCmpFunc_none Tryd.pdqG none cap lim (.func (.func 25) #[] #[]) W
  change ∀ lim W, Calls Tryd.prog 50 _ _ _ at hp
  have hln : ∀ W, Calls Tryd.prog 51 #[.int .u64 0] W fun e w' => (∃ q : Int, e = .returned (.int .i64 q)) ∧ w' = W := fun W => (Tryd.bits_Len 0 W (by omega) (by omega)).mono fun _ _ ⟨h1, h2⟩ => ⟨⟨_, h1⟩, h2⟩
  go_enter Tryd.func24, Tryd.ntmps24
  go_wp2_with fail
  refine (hln _).mono ?_
  rintro e w1 ⟨⟨q, rfl⟩, rfl⟩
  go_wp2_with fail
  refine (hp _ _).mono ?_
  rintro e w2 ⟨rfl, rfl⟩
  go_wp2_with fail
  go_end0
  exact ⟨rfl, rfl⟩
def SortP (base : Nat) (l : List TX) (A : Option Addr) (c : Nat) (w : World) (e : Ending) (w' : World) : Prop := e = .returned (.tuple #[]) ∧ ∃ l', l'.Perm l ∧ l'.Pairwise (fun x y => ltB y.n.data.toList x.n.data.toList = false) ∧ w'.ownsRow base 37 3 (.slice A l.length c) l'.length (gcells l') ∧ w.grownBy w' (blkA A)
theorem bsort_all (base : Nat) (l : List TX) (A : Option Addr) (c : Nat) (w : World) (h : w.ownsRow base 37 3 (.slice A l.length c) l.length (gcells l)) (hl : l.length ≤ 1000000000) :
    Calls Tryd.prog 24 #[.slice A l.length c, .func (.func 25) #[] #[]] w (SortP base l A c w) := by
  rcases h.2 with ⟨e, h0⟩ | ⟨g, cap, cur, e, _⟩
  · simp only [Value.slice.injEq] at e
    obtain ⟨rfl, h1, rfl⟩ := e
    obtain rfl : l = [] := List.eq_nil_of_length_eq_zero h0
    refine (bsort_nil 0 w).mono ?_
    rintro e w' ⟨rfl, rfl⟩
    exact ⟨rfl, [], List.Perm.refl _, List.Pairwise.nil, h, World.grownBy.refl _ _⟩
  · simp only [Value.slice.injEq, true_and] at e
    obtain ⟨rfl, rfl⟩ := e
    refine (bsort_any base l g c w h hl).mono ?_
    rintro e w' ⟨rfl, l', h1, h2, h3, h4⟩
    exact ⟨rfl, l', h1, h2, h3, h4⟩
end Go.Proofs.YtckpojkbcbogbaaDoor
