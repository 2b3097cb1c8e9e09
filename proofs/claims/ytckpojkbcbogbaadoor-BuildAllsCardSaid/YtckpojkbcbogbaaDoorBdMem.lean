/-
  How targets lie in memory: rows of three cells each, and the rows of texts behind them; and that they stay there.
-/
import Derived.Test.YtckpojkbcbogbaaDoorBdPlain
import Derived.Test.YtckpojkbcbogbaaDoorOwMem
namespace Go.Proofs.YtckpojkbcbogbaaDoor
open Go Go.RowKit Go.Shelf Go.Proofs

/-- A target in memory: its name; where its files lie, their room; the files; where what it stands on lies, its room; that. -/
structure TX where
  n : ByteArray
  A : Option Addr
  c : Nat
  s : List Bs
  B : Option Addr
  b : Nat
  d : List Bs
instance : Inhabited TX := ⟨⟨⟨#[]⟩, none, 0, [], none, 0, []⟩⟩
def TX.tg (x : TX) : Tg := ⟨x.n.data.toList, x.s, x.d⟩
def TX.cs (x : TX) : List Value := [.string x.n, .slice x.A x.s.length x.c, .slice x.B x.d.length x.b]
def tgsX (l : List TX) : List Tg := l.map TX.tg
theorem tgsX_length (l : List TX) : (tgsX l).length = l.length := by unfold tgsX; simp
theorem tgsX_getElem? (l : List TX) (i : Nat) : (tgsX l)[i]? = l[i]?.map TX.tg := by unfold tgsX; rw [List.getElem?_map]
theorem tgsX_append (a b : List TX) : tgsX (a ++ b) = tgsX a ++ tgsX b := by unfold tgsX; rw [List.map_append]
def RowG (w : World) (g o : Nat) (l : List TX) : Prop := ∀ i x, l[i]? = some x → w.cell? ⟨g, o + i * 3, none⟩ = some (.string x.n) ∧ w.cell? ⟨g, o + i * 3 + 1, none⟩ = some (.slice x.A x.s.length x.c) ∧ w.cell? ⟨g, o + i * 3 + 2, none⟩ = some (.slice x.B x.d.length x.b)
theorem RowG.keep {w w' : World} {g o : Nat} {l : List TX} (h : RowG w g o l) (hk : g < w.heap.size → w'.heap[g]? = w.heap[g]?) : RowG w' g o l := fun i x hx => by
  obtain ⟨h1, h2, h3⟩ := h i x hx
  have hl : g < w.heap.size := World.block_lt_of_cell? w (a := ⟨g, o + i * 3, none⟩) h1
  exact ⟨(World.cell?_of_block (a := ⟨g, o + i * 3, none⟩) (hk hl)).trans h1, (World.cell?_of_block (a := ⟨g, o + i * 3 + 1, none⟩) (hk hl)).trans h2, (World.cell?_of_block (a := ⟨g, o + i * 3 + 2, none⟩) (hk hl)).trans h3⟩
theorem RowG.below {w w' : World} {g o : Nat} {l : List TX} (h : RowG w g o l) (hb : Below w.heap.size w w') : RowG w' g o l := h.keep fun hg => hb.block g hg
/-- The files, and what it stands on, of each are there. -/
structure TgOk (w : World) (x : TX) : Prop where
  s : StrsAt w x.A x.s
  sc : x.s.length ≤ x.c
  cm : x.c ≤ maxLen
  d : StrsAt w x.B x.d
  dc : x.d.length ≤ x.b
  bm : x.b ≤ maxLen
theorem TgOk.below {w w' : World} {x : TX} (h : TgOk w x) (hb : Below w.heap.size w w') : TgOk w' x := ⟨h.s.below hb, h.sc, h.cm, h.d.below hb, h.dc, h.bm⟩
/-- The slice value .slice A n c holds the targets l. -/
structure TgsAt (w : World) (A : Option Addr) (c : Nat) (l : List TX) : Prop where
  cap : l.length ≤ c
  capm : c ≤ maxLen
  row : 0 < l.length → ∃ g o, A = some ⟨g, o, none⟩ ∧ RowG w g o l
  own : ∀ x ∈ l, TgOk w x
theorem TgsAt.below {w w' : World} {A : Option Addr} {c : Nat} {l : List TX} (h : TgsAt w A c l) (hb : Below w.heap.size w w') : TgsAt w' A c l :=
  ⟨h.cap, h.capm, fun hn => by obtain ⟨g, o, e, hr⟩ := h.row hn; exact ⟨g, o, e, hr.below hb⟩, fun x hx => (h.own x hx).below hb⟩
theorem TgsAt.nil (w : World) (A : Option Addr) (c : Nat) (hc : c ≤ maxLen) : TgsAt w A c [] := ⟨Nat.zero_le _, hc, fun h => absurd h (by simp), fun x hx => by cases hx⟩
/-- What Parse answers: the error, the targets. -/
def BdPost (r : Int × List Tg) (w : World) (e : Ending) (w' : World) : Prop := ∃ A c l, e = .returned (.tuple #[.slice A (List.length l) c, .int .i64 r.1]) ∧ TgsAt w' A c l ∧ tgsX l = r.2 ∧ Below w.heap.size w w'
end Go.Proofs.YtckpojkbcbogbaaDoor
