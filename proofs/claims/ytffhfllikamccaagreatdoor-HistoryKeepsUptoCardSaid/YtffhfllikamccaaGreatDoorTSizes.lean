/-
  Sizes of trees that calls made; a file that was boxed.
-/
import Derived.Test.YtffhfllikamccaaGreatDoorTOpen
import Derived.Test.YtffhfllikamccaaGreatDoorTLawKnown
import Derived.Test.YtffhfllikamccaaGreatDoorTPuts
namespace Go.Proofs.YtffhfllikamccaaGreatDoor
open Go Go.RowKit Go.Shelf Go.Proofs

/-- At most n files, no path and no bytes longer than m. -/
structure SizeX (n m : Nat) (l : List FX) : Prop where
  len : l.length ≤ n
  each : ∀ x ∈ l, x.p.size ≤ m ∧ x.b.length ≤ m
theorem TinyX.sized {l : List FX} (h : TinyX l) : SizeX 40 3000 l := ⟨h.len, h.each⟩
theorem SizeX.small {n m : Nat} {l : List FX} (h : SizeX n m l) (hn : n ≤ 100000) (hm : m ≤ 1000000) : SmallX l := ⟨Nat.le_trans h.len hn, fun x hx => ⟨Nat.le_trans (h.each x hx).1 hm, Nat.le_trans (h.each x hx).2 hm⟩⟩
theorem SizeX.mono {n m k j : Nat} {l : List FX} (h : SizeX n m l) (hn : n ≤ k) (hm : m ≤ j) : SizeX k j l := ⟨Nat.le_trans h.len hn, fun x hx => ⟨Nat.le_trans (h.each x hx).1 hm, Nat.le_trans (h.each x hx).2 hm⟩⟩
theorem SizeX.put {n m : Nat} {l : List FX} (h : SizeX n m l) {f : FX} (hp : f.p.size ≤ m) (hb : f.b.length ≤ m) : SizeX (n + 1) m (putX l f) := by
  have h1 := putX_le l f
  refine ⟨by have := h.len; omega, fun x hx => ?_⟩
  rcases putX_sub x hx with rfl | hx
  · exact ⟨hp, hb⟩
  · exact h.each x hx
theorem SizeX.keep {n m : Nat} {l : List FX} (h : SizeX n m l) (s : ByteArray) : SizeX n m (keepX l s) := ⟨Nat.le_trans (List.length_filter_le _ _) h.len, fun x hx => h.each x (keepX_sub x hx)⟩
theorem SizeX.of_fls {n m : Nat} {l k : List FX} (h : flsX l = flsX k) (hm : SizeX n m k) : SizeX n m l := by
  have hn := congrArg List.length h
  rw [flsX_length, flsX_length] at hn
  refine ⟨by rw [hn]; exact hm.len, fun x hx => ?_⟩
  have hx2 : x.fl ∈ flsX k := by rw [← h]; exact List.mem_map.2 ⟨x, hx, rfl⟩
  obtain ⟨y, hy, e⟩ := List.mem_map.1 hx2
  have hh := hm.each y hy
  have e1 : y.p.data.toList = x.p.data.toList := congrArg (·.1) e
  have e2 : y.b = x.b := congrArg (·.2) e
  have e3 := congrArg List.length e1
  rw [Array.length_toList, Array.length_toList] at e3
  have e4 : y.p.size = x.p.size := e3
  rw [← e4, ← e2]; exact hh
theorem SizeX.of_put {n m : Nat} {l k : List FX} {f : FX} (h : flsX l = putT (flsX k) f.fl) (hk : SizeX n m k) (hp : f.p.size ≤ m) (hb : f.b.length ≤ m) : SizeX (n + 1) m l := SizeX.of_fls (by rw [h, putX_fls]) (hk.put hp hb)
theorem SizeX.of_drop {n m : Nat} {l k : List FX} {s : ByteArray} (h : flsX l = dropT (flsX k) s.data.toList) (hk : SizeX n m k) : SizeX n m l := SizeX.of_fls (by rw [h, keepX_fls]) (hk.keep s)

/-- A block that holds a file's two cells. -/
structure BoxF (w : World) (g : Nat) (f : FX) : Prop where
  lt : g < w.heap.size
  c0 : w.cell? ⟨g, 0, none⟩ = some (.string f.p)
  c1 : w.cell? ⟨g, 1, none⟩ = some (.slice f.A f.b.length f.c)
theorem BoxF.below {w w' : World} {g : Nat} {f : FX} (h : BoxF w g f) (hb : Below w.heap.size w w') : BoxF w' g f :=
  ⟨Nat.lt_of_lt_of_le h.lt hb.size, (hb.cell (p := ⟨g, 0, none⟩) h.lt).trans h.c0, (hb.cell (p := ⟨g, 1, none⟩) h.lt).trans h.c1⟩
theorem BoxF.new (w : World) (f : FX) (t : TypeId) : BoxF (w.alloc (.cells #[.string f.p, .slice f.A f.b.length f.c] t)) w.heap.size f := by
  have h := heap_alloc_new w (.cells #[.string f.p, .slice f.A f.b.length f.c] t)
  exact ⟨(Array.getElem?_eq_some_iff.1 h).1, cell_of_row _ _ 0 _ _ _ h, cell_of_row _ _ 1 _ _ _ h⟩
theorem below_box (w : World) (o : Obj) : Below w.heap.size w (w.alloc o) := (Below.refl _ _).alloc (Nat.le_refl _) _
theorem str_eq_of {a b : ByteArray} (h : (a.toList == b.toList) = true) : a = b := by
  rw [beq_iff_eq, ByteArray.toList_eq, ByteArray.toList_eq] at h
  cases a; cases b
  simpa using h
theorem str_ne_of {a b : ByteArray} (h : (a.toList == b.toList) = false) : a.data.toList ≠ b.data.toList := by
  rw [beq_eq_false_iff_ne, ByteArray.toList_eq, ByteArray.toList_eq] at h
  exact h
end Go.Proofs.YtffhfllikamccaaGreatDoor
