/-
  Bytes in memory, as layer 6 (disk) wants them; rows of the call's own, and the block in which they lie.
-/
import Derived.Test.YtjobohhbkcjhnaaDkPlain
import Derived.Test.YtjobohhbkcjhnaaShelf
import Derived.Laws.AppendOwn
import Derived.Laws.OwnMore
import Derived.OwnWalkIn
import Derived.OneCell
import Derived.Deep.MidRow
import Derived.Deep.WholeRow
import Derived.Shelf.Bytes.SlEqualAll
import Derived.Lib.AppendZeros
import Derived.Lib.Hide
import Derived.Handy
namespace Go.Proofs.Ytjobohhbkcjhnaa
open Go Go.RowKit Go.Shelf Go.Proofs

abbrev Bs := List UInt8
def mkB (l : Bs) : ByteArray := ⟨l.toArray⟩
theorem mkB_data (l : Bs) : (mkB l).data.toList = l := by simp [mkB]
theorem ret_b {a b : Bool} (h : a = b) : Ending.returned (.bool a) = .returned (.bool b) := by rw [h]
def numsB (b : Bs) : List Int := b.map fun x => (x.toNat : Int)
theorem numsB_length (b : Bs) : (numsB b).length = b.length := by unfold numsB; simp
theorem numsB_get {b : Bs} {i : Nat} {x : UInt8} (h : b[i]? = some x) : (numsB b).getD i 0 = (x.toNat : Int) := by
  rw [List.getD_eq_getElem?_getD]
  unfold numsB
  rw [List.getElem?_map, h]; rfl

def BytesAt (w : World) (A : Option Addr) (b : Bs) : Prop := Lib.BytesIn w A b.length (numsB b)
theorem BytesAt.byte {w : World} {A : Option Addr} {b : Bs} {k : Nat} {x : UInt8} (h : BytesAt w A b) (hx : b[k]? = some x) : ∃ g o, A = some ⟨g, o, none⟩ ∧ w.cell? ⟨g, o + k, none⟩ = some (.int .u8 (x.toNat : Int)) := by
  have hk := (List.getElem?_eq_some_iff.1 hx).1
  obtain ⟨g, o, e, hc⟩ := h (by omega)
  refine ⟨g, o, e, ?_⟩
  rw [hc k hk]
  have e2 := numsB_get hx
  rw [e2]
theorem BytesAt.keep {w w' : World} {A : Option Addr} {b : Bs} (h : BytesAt w A b) (hk : ∀ g o, A = some ⟨g, o, none⟩ → g < w.heap.size → w'.heap[g]? = w.heap[g]?) : BytesAt w' A b := fun hn => by
  obtain ⟨g, o, e, hc⟩ := h hn
  refine ⟨g, o, e, fun i hi => ?_⟩
  have h1 := hc i hi
  have hl : g < w.heap.size := World.block_lt_of_cell? w (a := ⟨g, o + i, none⟩) h1
  exact (World.cell?_of_block (a := ⟨g, o + i, none⟩) (hk g o e hl)).trans h1
theorem BytesAt.below {w w' : World} {A : Option Addr} {b : Bs} (h : BytesAt w A b) (hb : Below w.heap.size w w') : BytesAt w' A b := h.keep fun g _ _ hg => hb.block g hg
theorem BytesAt.nil (w : World) (A : Option Addr) : BytesAt w A [] := fun h => absurd h (by simp)
theorem BytesAt.lt {w : World} {A : Option Addr} {b : Bs} (h : BytesAt w A b) (hn : 0 < b.length) : ∃ g o, A = some ⟨g, o, none⟩ ∧ g < w.heap.size := by
  obtain ⟨g, o, e, hc⟩ := h hn
  exact ⟨g, o, e, World.block_lt_of_cell? w (a := ⟨g, o + 0, none⟩) (hc 0 hn)⟩
theorem BytesAt.of_cells {w : World} {g o : Nat} {b : Bs} (h : ∀ i x, b[i]? = some x → w.cell? ⟨g, o + i, none⟩ = some (.int .u8 (x.toNat : Int))) : BytesAt w (some ⟨g, o, none⟩) b := fun _ => ⟨g, o, rfl, fun i hi => by
  rw [h i _ (List.getElem?_eq_getElem hi), numsB_get (List.getElem?_eq_getElem hi)]⟩
theorem BytesAt.take {w : World} {A : Option Addr} {b : Bs} (h : BytesAt w A b) (n : Nat) : BytesAt w A (b.take n) := by
  by_cases hn : 0 < (b.take n).length
  · have hb : 0 < b.length := by rw [List.length_take] at hn; omega
    obtain ⟨g, o, rfl, _⟩ := h hb
    refine BytesAt.of_cells fun i x hx => ?_
    rw [List.getElem?_take] at hx
    split at hx
    · obtain ⟨g', o', e, hc⟩ := h.byte hx
      cases e; exact hc
    · cases hx
  · exact fun h => absurd h hn

/-- The slice value .slice A n c shows the bytes b. -/
structure SlAt (w : World) (A : Option Addr) (c : Nat) (b : Bs) : Prop where
  bytes : BytesAt w A b
  cap : b.length ≤ c
  capm : c ≤ maxLen
  nil : A = none → c = 0
theorem SlAt.below {w w' : World} {A : Option Addr} {c : Nat} {b : Bs} (h : SlAt w A c b) (hb : Below w.heap.size w w') : SlAt w' A c b := ⟨h.bytes.below hb, h.cap, h.capm, h.nil⟩
theorem SlAt.none (w : World) : SlAt w none 0 [] := ⟨BytesAt.nil _ _, Nat.le_refl _, Nat.zero_le _, fun _ => rfl⟩
theorem SlAt.c63 {w : World} {A : Option Addr} {c : Nat} {b : Bs} (h : SlAt w A c b) : c ≤ 9223372036854775807 := by have := h.capm; unfold maxLen at this; omega
theorem SlAt.addr {w : World} {A : Option Addr} {c : Nat} {b : Bs} (h : SlAt w A c b) (hn : 0 < b.length) : ∃ g o, A = some ⟨g, o, Option.none⟩ := by
  obtain ⟨g, o, e, _⟩ := h.bytes hn
  exact ⟨g, o, e⟩
theorem SlAt.take {w : World} {A : Option Addr} {c : Nat} {b : Bs} (h : SlAt w A c b) (n : Nat) : SlAt w A c (b.take n) := ⟨h.bytes.take n, by rw [List.length_take]; have := h.cap; omega, h.capm, h.nil⟩
theorem SlAt.empty {w : World} {c : Nat} {b : Bs} (h : SlAt w Option.none c b) : b = [] ∧ c = 0 := by
  refine ⟨?_, h.nil rfl⟩
  cases b with
  | nil => rfl
  | cons x r => obtain ⟨g, o, e⟩ := h.addr (by simp); cases e

def valsB (b : Bs) : List Value := b.map fun x => .int .u8 (x.toNat : Int)
theorem valsB_length (b : Bs) : (valsB b).length = b.length := by unfold valsB; simp
theorem valsB_append (a b : Bs) : valsB (a ++ b) = valsB a ++ valsB b := by unfold valsB; simp
theorem valsB_take (a : Bs) (n : Nat) : valsB (a.take n) = (valsB a).take n := by unfold valsB; rw [List.map_take]

/-- A row's own block, and that it is one of its type. -/
theorem row_blk {w : World} {b e size n g : Nat} {v : Value} {xs : List Value} (h : w.ownsRow b e size v n xs) (hg : v.ownBlock = some g) : b ≤ g ∧ g < w.heap.size ∧ ∃ cur : Array Value, w.heap[g]? = some (Obj.cells cur e (0, 0)) := by
  have hl := World.ownsRow.lt h g hg
  rcases h.2 with ⟨rfl, _⟩ | ⟨g', cap, cur, rfl, _, hh, _⟩
  · cases hg
  · cases hg; exact ⟨hl.1, hl.2, cur, hh⟩
theorem row_slice {w : World} {b e size n : Nat} {v : Value} {xs : List Value} (h : w.ownsRow b e size v n xs) : ∃ A c, v = .slice A n c ∧ n ≤ c ∧ c ≤ maxLen ∧ (A = none → c = 0) ∧ ∀ g o s, A = some ⟨g, o, s⟩ → o = 0 ∧ s = none ∧ v.ownBlock = some g := by
  rcases h.2 with ⟨rfl, h0⟩ | ⟨g, cap, cur, rfl, _, _, h1, h2, _⟩
  · exact ⟨none, 0, by rw [h0], by omega, Nat.zero_le _, fun _ => rfl, (fun g o s e => by cases e)⟩
  · exact ⟨_, _, rfl, h1, h2, (fun e => by cases e), (fun g' o s e => by cases e; exact ⟨rfl, rfl, rfl⟩)⟩
theorem row_take {w : World} {b e size n k : Nat} {A : Option Addr} {c : Nat} {xs : List Value} (h : w.ownsRow b e size (.slice A n c) n xs) (hk : k ≤ n) : w.ownsRow b e size (.slice A k c) k (xs.take (k * size)) := by
  have hks : k * size ≤ n * size := Nat.mul_le_mul_right _ hk
  refine ⟨by rw [List.length_take, h.1]; omega, ?_⟩
  rcases h.2 with ⟨e, rfl⟩ | ⟨g, cap, cur, e, hbg, hh, h1, h2, h3, h4⟩
  · cases e
    obtain rfl : k = 0 := by omega
    exact .inl ⟨rfl, rfl⟩
  · cases e
    refine .inr ⟨g, c, cur, rfl, hbg, hh, by omega, h2, h3, ?_⟩
    rw [← h4, List.take_take, Nat.min_eq_left hks]
/-- A row stays while its block does. -/
theorem row_keep {w w' : World} {b e size n : Nat} {v : Value} {xs : List Value} (h : w.ownsRow b e size v n xs) (hk : ∀ g, v.ownBlock = some g → g < w.heap.size → w'.heap[g]? = w.heap[g]?) : w'.ownsRow b e size v n xs := by
  have hl := World.ownsRow.lt h
  refine ⟨h.1, ?_⟩
  rcases h.2 with h1 | ⟨g, cap, cur, rfl, hbg, hh, r⟩
  · exact .inl h1
  · exact .inr ⟨g, cap, cur, rfl, hbg, (hk g rfl (hl g rfl).2).trans hh, r⟩
theorem row_mono {w : World} {b b' e size n : Nat} {v : Value} {xs : List Value} (h : w.ownsRow b e size v n xs) (hb : b' ≤ b) : w.ownsRow b' e size v n xs := by
  refine ⟨h.1, ?_⟩
  rcases h.2 with h1 | ⟨g, cap, cur, rfl, hbg, r⟩
  · exact .inl h1
  · exact .inr ⟨g, cap, cur, rfl, Nat.le_trans hb hbg, r⟩

/-- append: the row is in the block where it was, or in a new one. -/
theorem run_app_blk {P : Program} (w : World) (base : Nat) (t ty e : TypeId) (i : TypeInfo) (z : Value) (size bytes : Nat) (ht : P.underlying t = some (.slice e)) (hi : P.info? e = some i) (hz : i.zero = some z)
    (hsize : i.size = size) (hby : i.bytes = bytes) (hzs : z.cells.size = size) (hsz : 0 < size)
    (v : Value) (n : Nat) (xs : List Value) (hown : w.ownsRow base e size v n xs)
    (a : Addr) (m c : Nat) (news : List Value) (hl : news.length = m * size) (hnews : ∀ j u, news[j]? = some u → w.cell? (a.add j) = some u) (h1 : ∀ u ∈ news, u.oneCell' = true)
    (h63 : n + m ≤ maxLen) (hbytes : (n + m) * bytes ≤ 140737488355328) (hbase : base ≤ w.heap.size) :
    ∃ v' w', (Builtin.append_ #[t, t] ty #[v, .slice (some a) m c]).run P w = .ok v' w' ∧ w'.ownsRow base e size v' (n + m) (xs ++ news) ∧ w.grownBy w' v.ownBlock ∧ (v'.ownBlock = v.ownBlock ∨ ∀ g, v'.ownBlock = some g → w.heap.size ≤ g) := by
  rcases hown.2 with ⟨rfl, rfl⟩ | ⟨g, cap, cur, rfl, hbg, hg, hnc, hcm, hcs, htake⟩
  · have hx : xs = [] := List.eq_nil_of_length_eq_zero (by simpa using hown.1)
    subst hx
    obtain ⟨v', w', hr, h2, h3, _⟩ := run_append_own (P := P) w w.heap.size t ty e i z size bytes ht hi hz hsize hby hzs hsz (.slice none 0 0) 0 [] (World.ownsRow_nil _ _ _ _) a m c news hl hnews h1 h63 hbytes (Nat.le_refl _)
    exact ⟨v', w', hr, row_mono h2 hbase, h3, .inr fun g hg => (row_blk h2 hg).1⟩
  · by_cases hroom : n + m ≤ cap
    · obtain ⟨w', hr, h2, h3⟩ := run_append_fits (P := P) w base t ty e i size ht hi hsize g n cap xs hown a m c news hl hnews h1 hroom
      exact ⟨_, w', hr, h2, h3, .inl rfl⟩
    · obtain ⟨v', w', hr, h2, h3, _⟩ := run_append_own (P := P) w base t ty e i z size bytes ht hi hz hsize hby hzs hsz _ n xs hown a m c news hl hnews h1 h63 hbytes hbase
      have holds : ∀ j u, xs[j]? = some u → w.cell? ((⟨g, 0, none⟩ : Addr).add j) = some u := hown.cells (g := g) rfl
      subst hsize
      subst hby
      have hr2 := run_append_grow (P := P) w t ty e i z ht hi hz ⟨g, 0, none⟩ n cap xs hown.1 holds a m c news hl hnews (by omega) (by unfold maxLen at h63; omega) (growslice_fits (by omega) hbytes)
      rw [hr] at hr2
      cases hr2
      exact ⟨_, _, hr, h2, h3, .inr fun k hk => by cases hk; exact Nat.le_refl _⟩
end Go.Proofs.Ytjobohhbkcjhnaa
