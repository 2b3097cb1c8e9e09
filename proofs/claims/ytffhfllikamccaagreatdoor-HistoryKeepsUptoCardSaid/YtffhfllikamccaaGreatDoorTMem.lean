/-
  How files lie in memory: bytes, a row of files of two cells each, a tree; and that they stay there. No program is named here.
-/
import Derived.Test.YtffhfllikamccaaGreatDoorTPlain
import Derived.Below
import Derived.Laws.OwnMore
import Derived.Shelf.Bytes.SlEqualAll
namespace Go.Proofs.YtffhfllikamccaaGreatDoor
open Go Go.RowKit Go.Shelf Go.Proofs

def numsB (b : Bs) : List Int := b.map fun x => (x.toNat : Int)
theorem numsB_length (b : Bs) : (numsB b).length = b.length := by unfold numsB; simp
theorem bytesOf_numsB (b : Bs) : Lib.bytesOf (numsB b) = b := by
  unfold Lib.bytesOf numsB
  rw [List.map_map]
  conv => rhs; rw [← List.map_id b]
  exact List.map_congr_left fun x _ => by simp
/-- A file in memory: its path; where its bytes lie, their room; the bytes. -/
structure FX where
  p : ByteArray
  A : Option Addr
  c : Nat
  b : Bs
instance : Inhabited FX := ⟨⟨⟨#[]⟩, none, 0, []⟩⟩
def FX.v (x : FX) : Value := .slice x.A x.b.length x.c
def FX.fl (x : FX) : Fl := (x.p.data.toList, x.b)
def FX.cs (x : FX) : List Value := [.string x.p, .slice x.A x.b.length x.c]
def flsX (l : List FX) : List Fl := l.map FX.fl
theorem flsX_length (l : List FX) : (flsX l).length = l.length := by unfold flsX; simp
theorem flsX_getElem? (l : List FX) (i : Nat) : (flsX l)[i]? = l[i]?.map FX.fl := by unfold flsX; rw [List.getElem?_map]

/-- Bytes that lie below the heap's end. -/
def BytesAt (w : World) (A : Option Addr) (b : Bs) : Prop := Lib.BytesIn w A b.length (numsB b)
theorem BytesAt.keep {w w' : World} {A : Option Addr} {b : Bs} (h : BytesAt w A b) (hk : ∀ g o, A = some ⟨g, o, none⟩ → g < w.heap.size → w'.heap[g]? = w.heap[g]?) : BytesAt w' A b := fun hn => by
  obtain ⟨g, o, e, hc⟩ := h hn
  refine ⟨g, o, e, fun i hi => ?_⟩
  have h1 := hc i hi
  have hl : g < w.heap.size := World.block_lt_of_cell? w (a := ⟨g, o + i, none⟩) h1
  exact (World.cell?_of_block (a := ⟨g, o + i, none⟩) (hk g o e hl)).trans h1
theorem BytesAt.below {w w' : World} {A : Option Addr} {b : Bs} (h : BytesAt w A b) (hb : Below w.heap.size w w') : BytesAt w' A b := h.keep fun g _ _ hg => hb.block g hg
theorem BytesAt.nil (w : World) (A : Option Addr) : BytesAt w A [] := fun h => absurd h (by simp)
/-- Their block lies below B. -/
def LowA (B : Nat) (A : Option Addr) (b : Bs) : Prop := 0 < b.length → ∀ g o s, A = some ⟨g, o, s⟩ → g < B
theorem BytesAt.low {w : World} {A : Option Addr} {b : Bs} (h : BytesAt w A b) : LowA w.heap.size A b := fun hn g o s e => by
  obtain ⟨g', o', e', hc⟩ := h hn
  rw [e] at e'
  cases e'
  exact World.block_lt_of_cell? w (a := ⟨g, o + 0, none⟩) (hc 0 hn)

/-- A row of files in block g, from o on. -/
def RowF (w : World) (g o : Nat) (l : List FX) : Prop := ∀ i x, l[i]? = some x → w.cell? ⟨g, o + i * 2, none⟩ = some (.string x.p) ∧ w.cell? ⟨g, o + i * 2 + 1, none⟩ = some (.slice x.A x.b.length x.c)
theorem RowF.keep {w w' : World} {g o : Nat} {l : List FX} (h : RowF w g o l) (hk : g < w.heap.size → w'.heap[g]? = w.heap[g]?) : RowF w' g o l := fun i x hx => by
  obtain ⟨h1, h2⟩ := h i x hx
  have hl : g < w.heap.size := World.block_lt_of_cell? w (a := ⟨g, o + i * 2, none⟩) h1
  exact ⟨(World.cell?_of_block (a := ⟨g, o + i * 2, none⟩) (hk hl)).trans h1, (World.cell?_of_block (a := ⟨g, o + i * 2 + 1, none⟩) (hk hl)).trans h2⟩
theorem RowF.below {w w' : World} {g o : Nat} {l : List FX} (h : RowF w g o l) (hb : Below w.heap.size w w') : RowF w' g o l := h.keep fun hg => hb.block g hg
theorem RowF.drop {w : World} {g o : Nat} {l : List FX} (h : RowF w g o l) (k : Nat) : RowF w g (o + k * 2) (l.drop k) := fun i x hx => by
  rw [List.getElem?_drop] at hx
  obtain ⟨h1, h2⟩ := h _ x hx
  rw [show o + k * 2 + i * 2 = o + (k + i) * 2 from by omega]
  exact ⟨h1, h2⟩
theorem RowF.take {w : World} {g o : Nat} {l : List FX} (h : RowF w g o l) (k : Nat) : RowF w g o (l.take k) := fun i x hx => by
  rw [List.getElem?_take] at hx
  split at hx
  · exact h i x hx
  · cases hx

/-- What a list of files asks of a world: their bytes are there. -/
def FilesAt (w : World) (l : List FX) : Prop := ∀ x ∈ l, BytesAt w x.A x.b
theorem FilesAt.below {w w' : World} {l : List FX} (h : FilesAt w l) (hb : Below w.heap.size w w') : FilesAt w' l := fun x hx => (h x hx).below hb
theorem FilesAt.sub {w : World} {l m : List FX} (h : FilesAt w l) (hm : ∀ x ∈ m, x ∈ l) : FilesAt w m := fun x hx => h x (hm x hx)
/-- Not too many files, not too long: what every contract here asks. -/
def SmallX (l : List FX) : Prop := l.length ≤ 100000 ∧ ∀ x ∈ l, x.p.size ≤ 1000000 ∧ x.b.length ≤ 1000000
theorem SmallX.sub {l m : List FX} (h : SmallX l) (hl : m.length ≤ l.length) (hm : ∀ x ∈ m, x ∈ l) : SmallX m := ⟨Nat.le_trans hl h.1, fun x hx => h.2 x (hm x hx)⟩

/-- The slice value .slice A n c holds the files l. -/
structure TreeAt (w : World) (A : Option Addr) (c : Nat) (l : List FX) : Prop where
  cap : l.length ≤ c
  capm : c ≤ maxLen
  row : 0 < l.length → ∃ g o, A = some ⟨g, o, none⟩ ∧ RowF w g o l
  files : FilesAt w l
theorem TreeAt.below {w w' : World} {A : Option Addr} {c : Nat} {l : List FX} (h : TreeAt w A c l) (hb : Below w.heap.size w w') : TreeAt w' A c l :=
  ⟨h.cap, h.capm, fun hn => by obtain ⟨g, o, e, hr⟩ := h.row hn; exact ⟨g, o, e, hr.below hb⟩, h.files.below hb⟩
theorem TreeAt.nil (w : World) (A : Option Addr) (c : Nat) (hc : c ≤ maxLen) : TreeAt w A c [] := ⟨Nat.zero_le _, hc, fun h => absurd h (by simp), fun x hx => by cases hx⟩
/-- What is known of the sizes of an argument. -/
def BigX (l : List FX) : Prop := ∀ x ∈ l, x.p.size ≤ 281474976710656 ∧ x.b.length ≤ 281474976710656
end Go.Proofs.YtffhfllikamccaaGreatDoor
