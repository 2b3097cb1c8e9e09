/-
  The program's sorting of files by their paths (slices.SortFunc under At's closure).
-/
import Derived.Test.YtkhkjgghnicipaaDoorSortF
import Derived.Test.YtkhkjgghnicipaaDoorShelf
import Derived.Test.YtkhkjgghnicipaaDoorTRefA
namespace Go.Proofs.YtkhkjgghnicipaaDoor
open Go Go.RowKit Go.Shelf Go.Proofs

def cmpX (x y : FX) : Int := Lib.compareBytes x.p.data.toList y.p.data.toList
theorem cmpX_lt (x y : FX) : Go.Proofs.ltOf cmpX x y = ltB x.p.data.toList y.p.data.toList := by
  unfold Go.Proofs.ltOf cmpX
  rcases cmpB_cases x.p.data.toList y.p.data.toList with ⟨e, h⟩ | ⟨e, h⟩ | ⟨e, h⟩
  · rw [e, h]; rfl
  · rw [e, h, ltB_irrefl]; rfl
  · rw [e, ltB_asymm _ _ h]; rfl
theorem cmpX_swo : Go.Sort.SWO (Go.Proofs.ltOf cmpX) := by
  refine ⟨fun x => ?_, fun x y z h1 h2 => ?_, fun x y z h1 h2 => ?_⟩
  · rw [cmpX_lt, ltB_irrefl]
  · rw [cmpX_lt] at *; exact ltB_trans _ _ _ h1 h2
  · rw [cmpX_lt] at *
    cases h : ltB x.p.data.toList z.p.data.toList with
    | false => rfl
    | true =>
      cases h3 : ltB y.p.data.toList x.p.data.toList with
      | true => rw [ltB_trans _ _ _ h3 h] at h2; cases h2
      | false => rw [ltB_tri _ _ h1 h3, h2] at h; cases h

theorem hcmp_any (x y : FX) (W : World) : Calls Tryd.prog 30 #[.agg x.cs.toArray, .agg y.cs.toArray] W fun e w' => e = .returned (.int .i64 (cmpX x y)) ∧ ∃ q os', w' = Go.Sort.grow (W.drewN q) os' := by
  have hcon := fun W' => Tryd.strings_Compare x.p y.p W'
  change ∀ W', Calls Tryd.prog 31 _ _ _ at hcon
  unfold cmpX
  generalize Lib.compareBytes x.p.data.toList y.p.data.toList = r at hcon ⊢
  unfold FX.cs
  go_enter Tryd.func30, Tryd.ntmps30
  go_wp2_with fail
  refine (hcon _).mono ?_
  rintro e w' ⟨rfl, rfl⟩
  go_wp2_with fail
  go_ret
  exact ⟨rfl, 0, _, by rw [Go.Sort.alloc_eq_grow, Go.Sort.alloc_eq_grow, Go.Sort.grow_grow]; rfl⟩

/-- Files' cells, as the sort sees them. -/
theorem flatX (l : List FX) : (Go.Sort.flatK FX.cs 2 l.toArray).toList = fcells l := by
  have hsz : (Go.Sort.flatK FX.cs 2 l.toArray).size = l.length * 2 := by simp
  apply List.ext_getElem?
  intro t
  by_cases ht : t < l.length * 2
  · have e1 := Go.Sort.get_flatK FX.cs 2 l.toArray t (by simpa using ht)
    obtain ⟨x, hx⟩ : ∃ x, l[t / 2]? = some x := ⟨_, List.getElem?_eq_getElem (by omega)⟩
    obtain ⟨c1, c2⟩ := fcells_at l (t / 2) x hx
    have hx2 : l.toArray[t / 2]! = x := by
      rw [getElem!_pos _ _ (by simp; omega)]
      simpa using (List.getElem?_eq_some_iff.1 hx).2
    rw [hx2] at e1
    rw [Array.getElem?_toList, Array.getElem?_eq_getElem (by omega), ← getElem!_pos _ t (by omega), e1]
    rcases Nat.mod_two_eq_zero_or_one t with h | h
    · have e2 : t = t / 2 * 2 := by omega
      rw [h]
      conv => rhs; rw [e2]
      rw [c1]; rfl
    · have e2 : t = t / 2 * 2 + 1 := by omega
      rw [h]
      conv => rhs; rw [e2]
      rw [c2]; rfl
  · rw [List.getElem?_eq_none (by simp; omega), List.getElem?_eq_none (by rw [fcells_length]; omega)]

theorem sort_heap {w : World} {g n : Nat} {os : Array Obj} {cur F : Array Value} {e : TypeId} {fr : Nat × Nat} (hb : w.heap[g]? = some (.cells cur e fr)) :
    (Go.Sort.grow (Go.Sort.putRow id (Go.Sort.ahead w n) g 0 F) os).heap[g]? = some (.cells (Go.Sort.putCells id 0 F cur) e fr) := by
  have hg : g < w.heap.size := (Array.getElem?_eq_some_iff.1 hb).1
  rw [Go.Sort.heap_grow_old _ _ (by simpa using hg)]
  simp [Go.Sort.putRow, Go.Sort.mapBlock, Go.Sort.ahead, Array.getElem?_modify, hb, Go.Sort.onCells]
theorem sort_grown {w : World} {g n : Nat} {os : Array Obj} {F : Array Value} : w.grownBy (Go.Sort.grow (Go.Sort.putRow id (Go.Sort.ahead w n) g 0 F) os) (some g) := by
  refine ⟨rfl, rfl, rfl, by simp, fun k hk hne => ?_⟩
  rw [Go.Sort.heap_grow_old _ _ (by simpa using hk)]
  have : g ≠ k := fun e => hne (by rw [e])
  simp [Go.Sort.putRow, Go.Sort.mapBlock, Go.Sort.ahead, Array.getElem?_modify, this]
theorem sort_take (cur F : Array Value) (h : F.size ≤ cur.size) : (Go.Sort.putCells id 0 F cur).toList.take F.size = F.toList := by
  apply List.ext_getElem?
  intro j
  by_cases hj : j < F.size
  · rw [List.getElem?_take_of_lt hj, Array.getElem?_toList]
    simp [Go.Sort.putCells, hj, show j < cur.size by omega]
  · rw [List.getElem?_take_eq_none (by omega), List.getElem?_eq_none (by simp; omega)]

theorem sort_holds {w : World} {g : Nat} {cur : Array Value} {e : TypeId} {F : Array Value} (hb : w.heap[g]? = some (.cells cur e (0, 0))) (ht : cur.toList.take F.size = F.toList) : Go.Sort.Holds id w g 0 F := by
  intro j hj
  refine ⟨?_, by simp [World.frozen?, hb]⟩
  have h1 : (cur.toList.take F.size)[j]? = F.toList[j]? := by rw [ht]
  rw [List.getElem?_take_of_lt hj] at h1
  rw [cell_of_row w g _ _ _ _ hb, Nat.zero_add, ← Array.getElem?_toList, h1]
  simp [hj]

/-- What the sort leaves: the same files, by rising paths. -/
def SortPost (base : Nat) (l : List FX) (v : Value) (w : World) (e : Ending) (w' : World) : Prop :=
  e = .returned (.tuple #[]) ∧ ∃ l', l'.Perm l ∧ l'.Pairwise (fun x y => ltB y.p.data.toList x.p.data.toList = false) ∧ FilesOwn base w' v l' ∧ w.grownBy w' v.ownBlock

set_option maxHeartbeats 2000000 in
theorem hsort_any (base : Nat) (l : List FX) (g cap : Nat) (w : World) (h : FilesOwn base w (.slice (some ⟨g, 0, none⟩) l.length cap) l) (hl : l.length ≤ 1000000000) :
    Calls Tryd.prog 29 #[.slice (some ⟨g, 0, none⟩) l.length cap, .func (.func 30) #[] #[]] w (SortPost base l (.slice (some ⟨g, 0, none⟩) l.length cap) w) := by
  obtain ⟨hl0, hr⟩ := h
  rcases hr with ⟨h0, _⟩ | ⟨g', cap', cur, hv, hbase, hb, h1, h2, h3, h4⟩
  · cases h0
  cases hv
  have hH : Go.Sort.HoldsK FX.cs 2 w g 0 l.toArray := sort_holds hb (by rw [flatX]; simpa using h4)
  have hgl : g < w.heap.size := (Array.getElem?_eq_some_iff.1 hb).1
  have eg : ∀ args w, (callFunc 30 args).run Tryd.prog w = .ok (.enter 30 args) w := enters_of Tryd.func30 (by kernel_rfl) rfl
  have hR : Go.Proofs.RowK FX.cs 2 w g 0 l.toArray := ⟨fun _ => rfl, fun x u hu => by
    simp only [FX.cs, List.mem_cons, List.mem_nil_iff, or_false] at hu
    rcases hu with rfl | rfl <;> rfl, hH, hgl⟩
  have hp := AnyQ.pdqsortCmpFunc_all Tryd.pdqF 2 Tryd.isAgg73 Tryd.sizeOf73 FX.cs cmpX 30 #[] cmpX_swo g 0 cap l.toArray w eg (fun m os dk hs x y => hcmp_any x y _) hR (l.length + 1) 0 l.length (Lib.bitLen l.length) l.toArray w (by omega) rfl (SWK.start hH) (Nat.zero_le _) (by simp) (by simp; omega) (Nat.lt_of_le_of_lt (Lib.bitLen_le l.length 62 (by omega) (by omega)) (by omega)) (Or.inl rfl)
  have hsz := Go.Sort.pdq_sorts (ltOf cmpX) cmpX_swo l.toArray 0 l.length (Lib.bitLen l.length) true true (Nat.zero_le _) (by simp) (Or.inl rfl)
  change Calls Tryd.prog 47 _ _ _ at hp
  have hln : ∀ W, Calls Tryd.prog 48 #[.int .u64 (l.length : Int)] W fun e w' => e = .returned (.int .i64 (Lib.bitLen l.length : Nat)) ∧ w' = W := fun W => by
    have h := Tryd.bits_Len (l.length : Int) W (by omega) (by omega)
    rwa [Int.toNat_natCast] at h
  have wr : IntKind.u64.wrap (l.length : Int) = l.length := by simp [IntKind.wrap, IntKind.bits, IntKind.signed]; omega
  have HP := Lib.hid hp
  have HSZ := Lib.hid hsz
  have HB := Lib.hid hb
  have H4 := Lib.hid h4
  have H3 := Lib.hid h3
  have HBS := Lib.hid hbase
  clear hp hsz hb h4 hH hR eg h3
  go_enter Tryd.func29, Tryd.ntmps29
  go_wp2_with fail
  refine (hln _).mono ?_
  rintro e w1 ⟨rfl, rfl⟩
  go_wp2_with fail
  refine HP.out.mono ?_
  rintro e w2 ⟨rfl, hw2⟩
  go_wp2_with fail
  go_end0
  obtain ⟨n, os, rfl⟩ := hw2
  obtain ⟨⟨hs1, _, hpm⟩, hso⟩ := HSZ.out
  have hs2 : (Go.Sort.pdq (ltOf cmpX) l.toArray 0 l.length (Lib.bitLen l.length) true true).size = l.length := by rw [hs1]; simp
  refine ⟨rfl, (Go.Sort.pdq (ltOf cmpX) l.toArray 0 l.length (Lib.bitLen l.length) true true).toList, ?_, ?_, ?_, ?_⟩
  · simpa [Array.extract_eq_self_of_le, hs2] using hpm
  · rw [List.pairwise_iff_getElem]
    intro i j hi hj hij
    rw [Array.length_toList] at hi hj
    have h := hso i j (Nat.zero_le _) hij (by omega)
    rw [cmpX_lt, getElem!_pos _ i hi, getElem!_pos _ j hj] at h
    simpa using h
  · have hfx := flatX (Go.Sort.pdq (ltOf cmpX) l.toArray 0 l.length (Lib.bitLen l.length) true true).toList
    rw [Array.toArray_toList] at hfx
    have hfs : (Go.Sort.flatK FX.cs 2 (Go.Sort.pdq (ltOf cmpX) l.toArray 0 l.length (Lib.bitLen l.length) true true)).size = l.length * 2 := by simp [hs2]
    have hlen : (Go.Sort.pdq (ltOf cmpX) l.toArray 0 l.length (Lib.bitLen l.length) true true).toList.length = l.length := by rw [Array.length_toList, hs2]
    refine ⟨by rw [fcells_length], .inr ⟨g, cap, _, congrArg (fun q => Value.slice (some ⟨g, 0, none⟩) q cap) hlen.symm, HBS.out, sort_heap HB.out, Nat.le_trans (Nat.le_of_eq hlen) h1, h2, by simp [Go.Sort.putCells, H3.out], ?_⟩⟩
    rw [← hfx, Array.length_toList, hs2, ← hfs]
    exact sort_take _ _ (by have := H3.out; omega)
  · exact sort_grown
end Go.Proofs.YtkhkjgghnicipaaDoor
