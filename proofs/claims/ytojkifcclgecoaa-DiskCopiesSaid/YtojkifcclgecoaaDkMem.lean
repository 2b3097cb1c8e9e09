/-
  Bytes in memory, as layer 6 (disk) wants them; rows of the call's own, and the block in which they lie. · Disks in memory: whose block is whose ('who': 0 is nobody's); what turns and what stays; an area, areas, a disk. · What is done to bytes of an area: grow, cut; the steps that are pending.
-/
import Derived.Test.YtojkifcclgecoaaDkPlain
import Derived.Test.YtojkifcclgecoaaShelf
import Derived.Laws.AppendOwn
import Derived.Laws.OwnMore
import Derived.OwnWalkIn
import Derived.OneCell
import Derived.Deep.MidRow
import Derived.Deep.WholeRow
import Derived.Shelf.Bytes.SlEqualAll
import Derived.Lib.AppendZeros
import Derived.Lib.Hide
import Derived.Handy
namespace Go.Proofs.Ytojkifcclgecoaa.Dk
open Go Go.RowKit Go.Shelf Go.Proofs

abbrev Bs := List UInt8
def mkB (l : Bs) : ByteArray := ⟨l.toArray⟩
theorem mkB_data (l : Bs) : (mkB l).data.toList = l := by simp [mkB]
theorem ret_b {a b : Bool} (h : a = b) : Ending.returned (.bool a) = .returned (.bool b) := by rw [h]
def numsB (b : Bs) : List Int := b.map fun x => (x.toNat : Int)
theorem numsB_length (b : Bs) : (numsB b).length = b.length := by unfold numsB; simp
theorem numsB_get {b : Bs} {i : Nat} {x : UInt8} (h : b[i]? = some x) : (numsB b).getD i 0 = (x.toNat : Int) := by
  rw [List.getD_eq_getElem?_getD]
  unfold numsB
  rw [List.getElem?_map, h]; rfl

def BytesAt (w : World) (A : Option Addr) (b : Bs) : Prop := Lib.BytesIn w A b.length (numsB b)
theorem BytesAt.byte {w : World} {A : Option Addr} {b : Bs} {k : Nat} {x : UInt8} (h : BytesAt w A b) (hx : b[k]? = some x) : ∃ g o, A = some ⟨g, o, none⟩ ∧ w.cell? ⟨g, o + k, none⟩ = some (.int .u8 (x.toNat : Int)) := by
  have hk := (List.getElem?_eq_some_iff.1 hx).1
  obtain ⟨g, o, e, hc⟩ := h (by omega)
  refine ⟨g, o, e, ?_⟩
  rw [hc k hk]
  have e2 := numsB_get hx
  rw [e2]
theorem BytesAt.keep {w w' : World} {A : Option Addr} {b : Bs} (h : BytesAt w A b) (hk : ∀ g o, A = some ⟨g, o, none⟩ → g < w.heap.size → w'.heap[g]? = w.heap[g]?) : BytesAt w' A b := fun hn => by
  obtain ⟨g, o, e, hc⟩ := h hn
  refine ⟨g, o, e, fun i hi => ?_⟩
  have h1 := hc i hi
  have hl : g < w.heap.size := World.block_lt_of_cell? w (a := ⟨g, o + i, none⟩) h1
  exact (World.cell?_of_block (a := ⟨g, o + i, none⟩) (hk g o e hl)).trans h1
theorem BytesAt.below {w w' : World} {A : Option Addr} {b : Bs} (h : BytesAt w A b) (hb : Below w.heap.size w w') : BytesAt w' A b := h.keep fun g _ _ hg => hb.block g hg
theorem BytesAt.nil (w : World) (A : Option Addr) : BytesAt w A [] := fun h => absurd h (by simp)
theorem BytesAt.lt {w : World} {A : Option Addr} {b : Bs} (h : BytesAt w A b) (hn : 0 < b.length) : ∃ g o, A = some ⟨g, o, none⟩ ∧ g < w.heap.size := by
  obtain ⟨g, o, e, hc⟩ := h hn
  exact ⟨g, o, e, World.block_lt_of_cell? w (a := ⟨g, o + 0, none⟩) (hc 0 hn)⟩
theorem BytesAt.of_cells {w : World} {g o : Nat} {b : Bs} (h : ∀ i x, b[i]? = some x → w.cell? ⟨g, o + i, none⟩ = some (.int .u8 (x.toNat : Int))) : BytesAt w (some ⟨g, o, none⟩) b := fun _ => ⟨g, o, rfl, fun i hi => by
  rw [h i _ (List.getElem?_eq_getElem hi), numsB_get (List.getElem?_eq_getElem hi)]⟩
theorem BytesAt.take {w : World} {A : Option Addr} {b : Bs} (h : BytesAt w A b) (n : Nat) : BytesAt w A (b.take n) := by
  by_cases hn : 0 < (b.take n).length
  · have hb : 0 < b.length := by rw [List.length_take] at hn; omega
    obtain ⟨g, o, rfl, _⟩ := h hb
    refine BytesAt.of_cells fun i x hx => ?_
    rw [List.getElem?_take] at hx
    split at hx
    · obtain ⟨g', o', e, hc⟩ := h.byte hx
      cases e; exact hc
    · cases hx
  · exact fun h => absurd h hn

/-- The slice value .slice A n c shows the bytes b. -/
structure SlAt (w : World) (A : Option Addr) (c : Nat) (b : Bs) : Prop where
  bytes : BytesAt w A b
  cap : b.length ≤ c
  capm : c ≤ maxLen
  nil : A = none → c = 0
theorem SlAt.below {w w' : World} {A : Option Addr} {c : Nat} {b : Bs} (h : SlAt w A c b) (hb : Below w.heap.size w w') : SlAt w' A c b := ⟨h.bytes.below hb, h.cap, h.capm, h.nil⟩
theorem SlAt.none (w : World) : SlAt w none 0 [] := ⟨BytesAt.nil _ _, Nat.le_refl _, Nat.zero_le _, fun _ => rfl⟩
theorem SlAt.c63 {w : World} {A : Option Addr} {c : Nat} {b : Bs} (h : SlAt w A c b) : c ≤ 9223372036854775807 := by have := h.capm; unfold maxLen at this; omega
theorem SlAt.addr {w : World} {A : Option Addr} {c : Nat} {b : Bs} (h : SlAt w A c b) (hn : 0 < b.length) : ∃ g o, A = some ⟨g, o, Option.none⟩ := by
  obtain ⟨g, o, e, _⟩ := h.bytes hn
  exact ⟨g, o, e⟩
theorem SlAt.take {w : World} {A : Option Addr} {c : Nat} {b : Bs} (h : SlAt w A c b) (n : Nat) : SlAt w A c (b.take n) := ⟨h.bytes.take n, by rw [List.length_take]; have := h.cap; omega, h.capm, h.nil⟩
theorem SlAt.empty {w : World} {c : Nat} {b : Bs} (h : SlAt w Option.none c b) : b = [] ∧ c = 0 := by
  refine ⟨?_, h.nil rfl⟩
  cases b with
  | nil => rfl
  | cons x r => obtain ⟨g, o, e⟩ := h.addr (by simp); cases e

def valsB (b : Bs) : List Value := b.map fun x => .int .u8 (x.toNat : Int)
theorem valsB_length (b : Bs) : (valsB b).length = b.length := by unfold valsB; simp
theorem valsB_append (a b : Bs) : valsB (a ++ b) = valsB a ++ valsB b := by unfold valsB; simp
theorem valsB_take (a : Bs) (n : Nat) : valsB (a.take n) = (valsB a).take n := by unfold valsB; rw [List.map_take]

/-- A row's own block, and that it is one of its type. -/
theorem row_blk {w : World} {b e size n g : Nat} {v : Value} {xs : List Value} (h : w.ownsRow b e size v n xs) (hg : v.ownBlock = some g) : b ≤ g ∧ g < w.heap.size ∧ ∃ cur : Array Value, w.heap[g]? = some (Obj.cells cur e (0, 0)) := by
  have hl := World.ownsRow.lt h g hg
  rcases h.2 with ⟨rfl, _⟩ | ⟨g', cap, cur, rfl, _, hh, _⟩
  · cases hg
  · cases hg; exact ⟨hl.1, hl.2, cur, hh⟩
theorem row_slice {w : World} {b e size n : Nat} {v : Value} {xs : List Value} (h : w.ownsRow b e size v n xs) : ∃ A c, v = .slice A n c ∧ n ≤ c ∧ c ≤ maxLen ∧ (A = none → c = 0) ∧ ∀ g o s, A = some ⟨g, o, s⟩ → o = 0 ∧ s = none ∧ v.ownBlock = some g := by
  rcases h.2 with ⟨rfl, h0⟩ | ⟨g, cap, cur, rfl, _, _, h1, h2, _⟩
  · exact ⟨none, 0, by rw [h0], by omega, Nat.zero_le _, fun _ => rfl, (fun g o s e => by cases e)⟩
  · exact ⟨_, _, rfl, h1, h2, (fun e => by cases e), (fun g' o s e => by cases e; exact ⟨rfl, rfl, rfl⟩)⟩
theorem row_take {w : World} {b e size n k : Nat} {A : Option Addr} {c : Nat} {xs : List Value} (h : w.ownsRow b e size (.slice A n c) n xs) (hk : k ≤ n) : w.ownsRow b e size (.slice A k c) k (xs.take (k * size)) := by
  have hks : k * size ≤ n * size := Nat.mul_le_mul_right _ hk
  refine ⟨by rw [List.length_take, h.1]; omega, ?_⟩
  rcases h.2 with ⟨e, rfl⟩ | ⟨g, cap, cur, e, hbg, hh, h1, h2, h3, h4⟩
  · cases e
    obtain rfl : k = 0 := by omega
    exact .inl ⟨rfl, rfl⟩
  · cases e
    refine .inr ⟨g, c, cur, rfl, hbg, hh, by omega, h2, h3, ?_⟩
    rw [← h4, List.take_take, Nat.min_eq_left hks]
/-- A row stays while its block does. -/
theorem row_keep {w w' : World} {b e size n : Nat} {v : Value} {xs : List Value} (h : w.ownsRow b e size v n xs) (hk : ∀ g, v.ownBlock = some g → g < w.heap.size → w'.heap[g]? = w.heap[g]?) : w'.ownsRow b e size v n xs := by
  have hl := World.ownsRow.lt h
  refine ⟨h.1, ?_⟩
  rcases h.2 with h1 | ⟨g, cap, cur, rfl, hbg, hh, r⟩
  · exact .inl h1
  · exact .inr ⟨g, cap, cur, rfl, hbg, (hk g rfl (hl g rfl).2).trans hh, r⟩
theorem row_mono {w : World} {b b' e size n : Nat} {v : Value} {xs : List Value} (h : w.ownsRow b e size v n xs) (hb : b' ≤ b) : w.ownsRow b' e size v n xs := by
  refine ⟨h.1, ?_⟩
  rcases h.2 with h1 | ⟨g, cap, cur, rfl, hbg, r⟩
  · exact .inl h1
  · exact .inr ⟨g, cap, cur, rfl, Nat.le_trans hb hbg, r⟩

/-- append: the row is in the block where it was, or in a new one. -/
theorem run_app_blk {P : Program} (w : World) (base : Nat) (t ty e : TypeId) (i : TypeInfo) (z : Value) (size bytes : Nat) (ht : P.underlying t = some (.slice e)) (hi : P.info? e = some i) (hz : i.zero = some z)
    (hsize : i.size = size) (hby : i.bytes = bytes) (hzs : z.cells.size = size) (hsz : 0 < size)
    (v : Value) (n : Nat) (xs : List Value) (hown : w.ownsRow base e size v n xs)
    (a : Addr) (m c : Nat) (news : List Value) (hl : news.length = m * size) (hnews : ∀ j u, news[j]? = some u → w.cell? (a.add j) = some u) (h1 : ∀ u ∈ news, u.oneCell' = true)
    (h63 : n + m ≤ maxLen) (hbytes : (n + m) * bytes ≤ 140737488355328) (hbase : base ≤ w.heap.size) :
    ∃ v' w', (Builtin.append_ #[t, t] ty #[v, .slice (some a) m c]).run P w = .ok v' w' ∧ w'.ownsRow base e size v' (n + m) (xs ++ news) ∧ w.grownBy w' v.ownBlock ∧ (v'.ownBlock = v.ownBlock ∨ ∀ g, v'.ownBlock = some g → w.heap.size ≤ g) := by
  rcases hown.2 with ⟨rfl, rfl⟩ | ⟨g, cap, cur, rfl, hbg, hg, hnc, hcm, hcs, htake⟩
  · have hx : xs = [] := List.eq_nil_of_length_eq_zero (by simpa using hown.1)
    subst hx
    obtain ⟨v', w', hr, h2, h3, _⟩ := run_append_own (P := P) w w.heap.size t ty e i z size bytes ht hi hz hsize hby hzs hsz (.slice none 0 0) 0 [] (World.ownsRow_nil _ _ _ _) a m c news hl hnews h1 h63 hbytes (Nat.le_refl _)
    exact ⟨v', w', hr, row_mono h2 hbase, h3, .inr fun g hg => (row_blk h2 hg).1⟩
  · by_cases hroom : n + m ≤ cap
    · obtain ⟨w', hr, h2, h3⟩ := run_append_fits (P := P) w base t ty e i size ht hi hsize g n cap xs hown a m c news hl hnews h1 hroom
      exact ⟨_, w', hr, h2, h3, .inl rfl⟩
    · obtain ⟨v', w', hr, h2, h3, _⟩ := run_append_own (P := P) w base t ty e i z size bytes ht hi hz hsize hby hzs hsz _ n xs hown a m c news hl hnews h1 h63 hbytes hbase
      have holds : ∀ j u, xs[j]? = some u → w.cell? ((⟨g, 0, none⟩ : Addr).add j) = some u := hown.cells (g := g) rfl
      subst hsize
      subst hby
      have hr2 := run_append_grow (P := P) w t ty e i z ht hi hz ⟨g, 0, none⟩ n cap xs hown.1 holds a m c news hl hnews (by omega) (by unfold maxLen at h63; omega) (growslice_fits (by omega) hbytes)
      rw [hr] at hr2
      cases hr2
      exact ⟨_, _, hr, h2, h3, .inr fun k hk => by cases hk; exact Nat.le_refl _⟩
end Go.Proofs.Ytojkifcclgecoaa.Dk
namespace Go.Proofs.Ytojkifcclgecoaa.Dk
open Go Go.RowKit Go.Shelf Go.Proofs

theorem List.set_eq_of_getElem? {α : Type} : ∀ (l : List α) (i : Nat) {x : α}, l[i]? = some x → l.set i x = l
  | [], _, _, _ => rfl
  | y :: r, 0, x, h => by cases h; rfl
  | y :: r, i + 1, x, h => by
    have : r[i]? = some x := by simpa using h
    rw [List.set_cons_succ, List.set_eq_of_getElem? r i this]
theorem append_alike {P : Program} (w : World) (t t' ty e : TypeId) (ht : P.underlying t = some (.slice e)) (ht' : P.underlying t' = some (.slice e)) (A B : Option Addr) (n c m d : Nat) : (Builtin.append_ #[t, t'] ty #[.slice A n c, .slice B m d]).run P w = (Builtin.append_ #[t, t] ty #[.slice A n c, .slice B m d]).run P w := by
  simp [Builtin.append_, run_underlying ht, run_underlying ht']
/-- append to a row of one's own: as append_alike lets it be said, an empty source too. -/
theorem run_appX {P : Program} (w : World) (base : Nat) (t t' ty e : TypeId) {z : Value} {size bytes : Nat} (hI : (P.info? e).map (fun i => (i.zero, i.size, i.bytes)) = some (some z, size, bytes)) (ht : P.underlying t = some (.slice e)) (ht' : P.underlying t' = some (.slice e))
    (hzs : z.cells.size = size) (hsz : 0 < size) {v : Value} {n : Nat} {xs : List Value} (hown : w.ownsRow base e size v n xs)
    (A : Option Addr) (m c : Nat) (news : List Value) (hl : news.length = m * size) (hA : A = none → m = 0 ∧ c = 0) (hnews : ∀ a, A = some a → ∀ j u, news[j]? = some u → w.cell? (a.add j) = some u) (h1 : ∀ u ∈ news, u.oneCell' = true)
    (h63 : n + m ≤ maxLen) (hbytes : (n + m) * bytes ≤ 140737488355328) (hbase : base ≤ w.heap.size) :
    ∃ v' w', (Builtin.append_ #[t, t'] ty #[v, .slice A m c]).run P w = .ok v' w' ∧ w'.ownsRow base e size v' (n + m) (xs ++ news) ∧ w.grownBy w' v.ownBlock ∧ (v'.ownBlock = v.ownBlock ∨ ∀ g, v'.ownBlock = some g → w.heap.size ≤ g) := by
  obtain ⟨A0, c0, hv, _⟩ := row_slice hown
  have hal := append_alike w t t' ty e ht ht' A0 A n c0 m c
  rw [← hv] at hal
  rw [hal]
  obtain ⟨i, hi, hz, h2, h3⟩ := info_parts hI
  cases A with
  | none =>
    obtain ⟨rfl, rfl⟩ := hA rfl
    obtain rfl : news = [] := List.eq_nil_of_length_eq_zero (by simpa using hl)
    refine ⟨v, w, run_append_owned_none (P := P) (w := w) base t ty e i size ht hi v n xs hown, by simpa using hown, ⟨rfl, rfl, rfl, Nat.le_refl _, fun _ _ _ => rfl⟩, .inl rfl⟩
  | some a => exact run_app_blk w base t ty e i z size bytes ht hi hz h2 h3 hzs hsz v n xs hown a m c news hl (hnews a rfl) h1 h63 hbytes hbase

/-- Bytes of one's own. -/
def OB (base : Nat) (w : World) (v : Value) (b : Bs) : Prop := w.ownsRow base 5 1 v b.length (valsB b)
theorem fr_u8 : (Try.prog.info? 5).map (fun i => (i.zero, i.size, i.bytes)) = some (some (.int .u8 0), 1, 1) := by kernel_rfl
theorem OB.nil (base : Nat) (w : World) : OB base w (.slice none 0 0) [] := World.ownsRow_nil _ _ _ _
theorem OB.sl {base : Nat} {w : World} {v : Value} {b : Bs} (h : OB base w v b) : ∃ A c, v = .slice A b.length c ∧ SlAt w A c b ∧ ∀ g o s, A = some ⟨g, o, s⟩ → v.ownBlock = some g := by
  obtain ⟨A, c, e, h1, h2, h3, h4⟩ := row_slice h
  refine ⟨A, c, e, ⟨?_, h1, h2, h3⟩, fun g o s e => (h4 g o s e).2.2⟩
  cases A with
  | none =>
    obtain rfl : b = [] := List.eq_nil_of_length_eq_zero (by have := h3 rfl; omega)
    exact BytesAt.nil _ _
  | some a =>
    obtain ⟨g, o, s⟩ := a
    obtain ⟨rfl, rfl, h5⟩ := h4 g o s rfl
    refine BytesAt.of_cells fun i x hx => ?_
    have h1 := World.ownsRow.cells h (g := g) h5 i (.int .u8 (x.toNat : Int)) (by unfold valsB; rw [List.getElem?_map, hx]; rfl)
    rwa [Go.WideShapes.add_plain] at h1
theorem OB.cut {base : Nat} {w : World} {A : Option Addr} {c : Nat} {b : Bs} (h : OB base w (.slice A b.length c) b) {k : Nat} (hk : k ≤ b.length) : OB base w (.slice A k c) (b.take k) := by
  have := row_take h hk
  unfold OB
  rw [List.length_take, Nat.min_eq_left hk, valsB_take]
  rwa [Nat.mul_one] at this
theorem sl_news {w : World} {A : Option Addr} {c : Nat} {b : Bs} (hb : SlAt w A c b) (a : Addr) (hA : A = some a) : ∀ j u, (valsB b)[j]? = some u → w.cell? (a.add j) = some u := fun j u hu => by
  unfold valsB at hu
  rw [List.getElem?_map] at hu
  obtain ⟨y, hy, rfl⟩ := Option.map_eq_some_iff.1 hu
  obtain ⟨g', o', e', hc'⟩ := hb.bytes.byte hy
  rw [hA] at e'
  cases e'
  rw [Go.WideShapes.add_plain]; exact hc'
theorem vals_one (b : Bs) : ∀ u ∈ valsB b, u.oneCell' = true := fun u hu => by
  unfold valsB at hu
  obtain ⟨y, _, rfl⟩ := List.mem_map.1 hu; rfl
/-- append of bytes to bytes of one's own. -/
theorem run_appB (w : World) (base : Nat) (t t' ty : TypeId) (ht : Try.prog.underlying t = some (.slice 5)) (ht' : Try.prog.underlying t' = some (.slice 5)) {v : Value} {l : Bs} (hown : OB base w v l) {A : Option Addr} {c : Nat} {b : Bs} (hb : SlAt w A c b)
    (hlen : l.length + b.length ≤ 100000000) (hbase : base ≤ w.heap.size) :
    ∃ v' w', (Builtin.append_ #[t, t'] ty #[v, .slice A b.length c]).run Try.prog w = .ok v' w' ∧ OB base w' v' (l ++ b) ∧ w.grownBy w' v.ownBlock ∧ (v'.ownBlock = v.ownBlock ∨ ∀ g, v'.ownBlock = some g → w.heap.size ≤ g) := by
  obtain ⟨v', w', h1, h2, h3⟩ := run_appX (P := Try.prog) w base t t' ty 5 fr_u8 ht ht' rfl (by decide) hown A b.length c (valsB b) (by rw [valsB_length, Nat.mul_one]) (fun e => by subst e; obtain ⟨rfl, rfl⟩ := hb.empty; exact ⟨rfl, rfl⟩) (fun a e => sl_news hb a e) (vals_one b) (by unfold maxLen; omega) (by omega) hbase
  refine ⟨v', w', h1, ?_, h3⟩
  unfold OB
  rw [List.length_append, valsB_append]
  exact h2

/-- What turns from w on lies in blocks of tags from lo to hi; new blocks aside. -/
structure Turn (lo hi : Nat) (who : Nat → Nat) (w : World) (who' : Nat → Nat) (w' : World) : Prop where
  os : w'.os = w.os
  tape : w'.tape = w.tape
  output : w'.output = w.output
  size : w.heap.size ≤ w'.heap.size
  block : ∀ b, b < w.heap.size → ¬ (lo ≤ who b ∧ who b < hi) → w'.heap[b]? = w.heap[b]?
  same : ∀ b, b < w.heap.size → who' b = who b
def Fresh (who : Nat → Nat) (w : World) : Prop := ∀ b, w.heap.size ≤ b → who b = 0
theorem Fresh.size {who : Nat → Nat} {w w' : World} (h : Fresh who w) (hs : w.heap.size ≤ w'.heap.size) : Fresh who w' := fun b hb => h b (Nat.le_trans hs hb)
theorem Turn.refl (lo hi : Nat) (who : Nat → Nat) (w : World) : Turn lo hi who w who w := ⟨rfl, rfl, rfl, Nat.le_refl _, fun _ _ _ => rfl, fun _ _ => rfl⟩
theorem Turn.below {lo hi : Nat} {who : Nat → Nat} {w w' : World} (h : Below w.heap.size w w') : Turn lo hi who w who w' := ⟨h.os, h.tape, h.output, h.size, fun b hb _ => h.block b hb, fun _ _ => rfl⟩
theorem Turn.trans {lo hi : Nat} {a b c : Nat → Nat} {w1 w2 w3 : World} (h : Turn lo hi a w1 b w2) (k : Turn lo hi b w2 c w3) : Turn lo hi a w1 c w3 :=
  ⟨k.os.trans h.os, k.tape.trans h.tape, k.output.trans h.output, Nat.le_trans h.size k.size, fun q hq hn => (k.block q (Nat.lt_of_lt_of_le hq h.size) (by rw [h.same q hq]; exact hn)).trans (h.block q hq hn), fun q hq => (k.same q (Nat.lt_of_lt_of_le hq h.size)).trans (h.same q hq)⟩
theorem Turn.wider {lo hi lo' hi' : Nat} {a b : Nat → Nat} {w1 w2 : World} (h : Turn lo hi a w1 b w2) (h1 : lo' ≤ lo) (h2 : hi ≤ hi') : Turn lo' hi' a w1 b w2 :=
  ⟨h.os, h.tape, h.output, h.size, fun q hq hn => h.block q hq (fun e => hn ⟨by omega, by omega⟩), h.same⟩
/-- Of blocks that nobody had nothing has turned. -/
theorem Turn.free {lo hi : Nat} {a b : Nat → Nat} {w1 w2 : World} (h : Turn lo hi a w1 b w2) (hlo : 0 < lo) {B : Nat} (hB : ∀ q, q < B → a q = 0) (hBs : B ≤ w1.heap.size) : Below B w1 w2 :=
  ⟨h.os, h.tape, h.output, h.size, fun q hq => h.block q (by omega) (by rw [hB q hq]; omega)⟩
theorem Turn.bytes {lo hi : Nat} {a b : Nat → Nat} {w1 w2 : World} (h : Turn lo hi a w1 b w2) (hlo : 0 < lo) {A : Option Addr} {l : Bs} (hb : BytesAt w1 A l) (hA : 0 < l.length → ∀ g o, A = some ⟨g, o, none⟩ → a g = 0) : BytesAt w2 A l := by
  by_cases hn : 0 < l.length
  · exact hb.keep fun g o e hg => h.block g hg (by rw [hA hn g o e]; omega)
  · exact fun h => absurd h hn
/-- A step: a row of tag T is appended to, or cut, or a cell of such a block is stored into. -/
theorem Turn.grown {who : Nat → Nat} {w w' : World} {v : Value} (hg : w.grownBy w' v.ownBlock) {T : Nat} (hv : ∀ g, v.ownBlock = some g → who g = T) {who' : Nat → Nat} (hw : ∀ b, b < w.heap.size → who' b = who b) : Turn T (T + 1) who w who' w' :=
  ⟨hg.os, hg.tape, hg.output, hg.size, fun b hb hn => hg.block b hb (fun e => hn (by have := hv b e.symm; omega)), hw⟩
/-- Whose blocks are whose behind it. -/
def tagged (who : Nat → Nat) (n : Nat) (v : Value) (T : Nat) : Nat → Nat := fun b => if n ≤ b ∧ v.ownBlock = some b then T else who b
theorem tagged_old {who : Nat → Nat} {n : Nat} {v : Value} {T b : Nat} (h : b < n) : tagged who n v T b = who b := by unfold tagged; rw [if_neg (by omega)]
theorem tagged_own {who : Nat → Nat} {w : World} {v v' : Value} {T : Nat} (hb : v'.ownBlock = v.ownBlock ∨ ∀ g, v'.ownBlock = some g → w.heap.size ≤ g) (hv : ∀ g, v.ownBlock = some g → who g = T) : ∀ g, v'.ownBlock = some g → tagged who w.heap.size v' T g = T := fun g hg => by
  unfold tagged
  by_cases h1 : w.heap.size ≤ g
  · rw [if_pos ⟨h1, hg⟩]
  · rw [if_neg (fun e => h1 e.1)]
    rcases hb with e | e
    · exact hv g (e ▸ hg)
    · exact absurd (e g hg) h1
theorem tagged_fresh {who : Nat → Nat} {n T : Nat} {v : Value} {w' : World} (hf : ∀ b, n ≤ b → who b = 0) (hn : n ≤ w'.heap.size) (hv : ∀ g, v.ownBlock = some g → g < w'.heap.size) : Fresh (tagged who n v T) w' := fun b hb => by
  unfold tagged
  rw [if_neg (fun e => by have := hv b e.2; omega)]
  exact hf b (by omega)

/-- What is pending, in memory. -/
inductive SX where
  | grow (A : Option Addr) (c : Nat) (b : Bs)
  | cut (n : Nat)
def SX.v : SX → Value
  | .grow A c b => .iface 94 (.slice A b.length c)
  | .cut n => .iface 111 (.int .i64 n)
def SX.sts : SX → List DSt
  | .grow _ _ b => b.map .byte
  | .cut n => [.cut n]
def SX.at_ (who : Nat → Nat) (w : World) : SX → Prop
  | .grow A c b => SlAt w A c b ∧ (0 < b.length → ∀ g o, A = some ⟨g, o, none⟩ → who g = 0)
  | .cut n => n ≤ 100000000
def stsX (p : List SX) : List DSt := p.flatMap SX.sts
/-- Each cut leaves what there is. -/
def okS (b : Bs) : List DSt → Prop
  | [] => True
  | .byte x :: r => okS (b ++ [x]) r
  | .cut n :: r => n ≤ b.length ∧ okS (b.take n) r
theorem okS_append (l m : List DSt) : ∀ b, okS b (l ++ m) ↔ okS b l ∧ okS (runS b l) m := by
  induction l with
  | nil => intro b; simp [okS, runS]
  | cons s r ih =>
    intro b
    cases s with
    | byte x => exact ih _
    | cut n =>
      show (n ≤ b.length ∧ okS (b.take n) (r ++ m)) ↔ (n ≤ b.length ∧ okS (b.take n) r) ∧ okS (runS (b.take n) r) m
      rw [ih, and_assoc]
theorem okS_bytes (g b : Bs) : okS b (g.map .byte) := by
  induction g generalizing b with
  | nil => trivial
  | cons x r ih => exact ih _

/-- An area, in memory. -/
structure AX where
  cv : Value
  lv : Value
  pv : Value
  c : Bs
  l : Bs
  p : List SX
def AX.ar (x : AX) : DAr := ⟨x.l, stsX x.p⟩
def AX.cs (x : AX) : List Value := [x.cv, x.lv, x.pv]
structure AreaAt (base : Nat) (who : Nat → Nat) (w : World) (T : Nat) (x : AX) : Prop where
  c : OB base w x.cv x.c
  l : OB base w x.lv x.l
  p : w.ownsRow base 115 1 x.pv x.p.length (x.p.map SX.v)
  steps : ∀ s ∈ x.p, s.at_ who w
  wc : ∀ g, x.cv.ownBlock = some g → who g = T
  wl : ∀ g, x.lv.ownBlock = some g → who g = T + 1
  wp : ∀ g, x.pv.ownBlock = some g → who g = T + 2
theorem SX.at_.keep {who who' : Nat → Nat} {w w' : World} {s : SX} (h : s.at_ who w) (hk : ∀ b, b < w.heap.size → who b = 0 → w'.heap[b]? = w.heap[b]? ∧ who' b = who b) : s.at_ who' w' := by
  cases s with
  | cut n => exact h
  | grow A c b =>
    obtain ⟨h1, h2⟩ := h
    by_cases hn : 0 < b.length
    · obtain ⟨g, o, rfl, hg⟩ := h1.bytes.lt hn
      have h0 := h2 hn g o rfl
      obtain ⟨h3, h4⟩ := hk g hg h0
      exact ⟨⟨h1.bytes.keep fun g' o' e _ => (by cases e; exact h3), h1.cap, h1.capm, h1.nil⟩, fun _ g' o' e => (by cases e; exact h4.trans h0)⟩
    · obtain rfl : b = [] := List.eq_nil_of_length_eq_zero (by omega)
      exact ⟨⟨BytesAt.nil _ _, h1.cap, h1.capm, h1.nil⟩, fun h => absurd h hn⟩
theorem AreaAt.keep {base : Nat} {who who' : Nat → Nat} {w w' : World} {T : Nat} {x : AX} (h : AreaAt base who w T x) (hk : ∀ b, b < w.heap.size → who b = 0 ∨ (T ≤ who b ∧ who b < T + 3) → w'.heap[b]? = w.heap[b]? ∧ who' b = who b) : AreaAt base who' w' T x := by
  refine ⟨row_keep h.c fun g hg hl => (hk g hl (.inr (by rw [h.wc g hg]; omega))).1, row_keep h.l fun g hg hl => (hk g hl (.inr (by rw [h.wl g hg]; omega))).1, row_keep h.p fun g hg hl => (hk g hl (.inr (by rw [h.wp g hg]; omega))).1, fun s hs => (h.steps s hs).keep fun b hb h0 => hk b hb (.inl h0), fun g hg => ?_, fun g hg => ?_, fun g hg => ?_⟩
  · have := h.wc g hg; rw [(hk g (row_blk h.c hg).2.1 (.inr (by omega))).2]; exact this
  · have := h.wl g hg; rw [(hk g (row_blk h.l hg).2.1 (.inr (by omega))).2]; exact this
  · have := h.wp g hg; rw [(hk g (row_blk h.p hg).2.1 (.inr (by omega))).2]; exact this

/-- The areas of a disk of tags from T on. -/
structure AreasAt (base : Nat) (who : Nat → Nat) (w : World) (T ga cap : Nat) (L : List AX) : Prop where
  row : w.ownsRow base 88 3 (.slice (some ⟨ga, 0, none⟩) L.length cap) L.length (L.flatMap AX.cs)
  wg : who ga = T + 1
  each : ∀ i x, L[i]? = some x → AreaAt base who w (T + 2 + 3 * i) x
theorem AreasAt.keep {base : Nat} {who who' : Nat → Nat} {w w' : World} {T ga cap : Nat} {L : List AX} (h : AreasAt base who w T ga cap L) (hk : ∀ b, b < w.heap.size → who b = 0 ∨ (T + 1 ≤ who b ∧ who b < T + 2 + 3 * L.length) → w'.heap[b]? = w.heap[b]? ∧ who' b = who b) : AreasAt base who' w' T ga cap L := by
  have hg := (row_blk h.row rfl).2.1
  refine ⟨row_keep h.row fun g hg hl => ?_, ?_, fun i x hx => (h.each i x hx).keep fun b hb h0 => hk b hb ?_⟩
  · cases hg; exact (hk ga hl (.inr (by rw [h.wg]; omega))).1
  · rw [(hk ga hg (.inr (by rw [h.wg]; omega))).2]; exact h.wg
  · have := (List.getElem?_eq_some_iff.1 hx).1
    rcases h0 with h0 | h0
    · exact .inl h0
    · exact .inr (by omega)
theorem cs_at {L : List AX} {i : Nat} {x : AX} (h : L[i]? = some x) : (L.flatMap AX.cs)[3 * i]? = some x.cv ∧ (L.flatMap AX.cs)[3 * i + 1]? = some x.lv ∧ (L.flatMap AX.cs)[3 * i + 2]? = some x.pv := by
  induction L generalizing i with
  | nil => simp at h
  | cons y r ih =>
    rw [List.flatMap_cons]
    cases i with
    | zero => obtain rfl : y = x := by simpa using h
              exact ⟨rfl, rfl, rfl⟩
    | succ i =>
      have := ih (i := i) (by simpa using h)
      show (y.cv :: y.lv :: y.pv :: (r.flatMap AX.cs))[3 * (i + 1)]? = _ ∧ (y.cv :: y.lv :: y.pv :: (r.flatMap AX.cs))[3 * (i + 1) + 1]? = _ ∧ (y.cv :: y.lv :: y.pv :: (r.flatMap AX.cs))[3 * (i + 1) + 2]? = _
      rw [show 3 * (i + 1) = 3 * i + 3 from by omega, show 3 * i + 3 + 1 = (3 * i + 1) + 3 from by omega, show 3 * i + 3 + 2 = (3 * i + 2) + 3 from by omega]
      simpa using this
theorem cs_length (L : List AX) : (L.flatMap AX.cs).length = L.length * 3 := by
  induction L with
  | nil => rfl
  | cons y r ih => rw [List.flatMap_cons, List.length_append, ih, List.length_cons]; show 3 + _ = _; omega
theorem cs_set {L : List AX} {i : Nat} {x : AX} (h : L[i]? = some x) (y : AX) : ((L.flatMap AX.cs).set (3 * i) y.cv |>.set (3 * i + 1) y.lv |>.set (3 * i + 2) y.pv) = (L.set i y).flatMap AX.cs := by
  induction L generalizing i with
  | nil => simp at h
  | cons z r ih =>
    cases i with
    | zero => rfl
    | succ i =>
      have := ih (i := i) (by simpa using h)
      show (((z.cv :: z.lv :: z.pv :: (r.flatMap AX.cs)).set (3 * (i + 1)) y.cv).set (3 * (i + 1) + 1) y.lv).set (3 * (i + 1) + 2) y.pv = z.cv :: z.lv :: z.pv :: ((r.set i y).flatMap AX.cs)
      rw [← this, show 3 * (i + 1) = 3 * i + 3 from by omega, show 3 * i + 3 + 1 = (3 * i + 1) + 3 from by omega, show 3 * i + 3 + 2 = (3 * i + 2) + 3 from by omega]
      rfl
theorem AreasAt.cells {base : Nat} {who : Nat → Nat} {w : World} {T ga cap : Nat} {L : List AX} (h : AreasAt base who w T ga cap L) {i : Nat} {x : AX} (hx : L[i]? = some x) :
    w.cell? ⟨ga, 3 * i, none⟩ = some x.cv ∧ w.cell? ⟨ga, 3 * i + 1, none⟩ = some x.lv ∧ w.cell? ⟨ga, 3 * i + 2, none⟩ = some x.pv := by
  have hi := (List.getElem?_eq_some_iff.1 hx).1
  obtain ⟨h1, h2, h3⟩ := cs_at hx
  rw [h.row.cellAt _ (by omega), h.row.cellAt _ (by omega), h.row.cellAt _ (by omega)]
  exact ⟨h1, h2, h3⟩
/-- What is read is what lasts behind all that is pending. -/
def AX.ok (x : AX) : Prop := x.c = x.ar.now ∧ okS x.l (stsX x.p) ∧ x.p.length ≤ (stsX x.p).length

/-- A part of an area is another one. -/
theorem AreasAt.put {base : Nat} {who : Nat → Nat} {w w1 : World} {T ga cap i k : Nat} {L : List AX} {x x' : AX} {v v' : Value} (h : AreasAt base who w T ga cap L) (hx : L[i]? = some x) (hf : Fresh who w) (hk3 : k < 3)
    (hg : w.grownBy w1 v.ownBlock) (hv : ∀ g, v.ownBlock = some g → who g = T + 2 + 3 * i + k) (hlt : ∀ g, v'.ownBlock = some g → g < w1.heap.size)
    (hcs : (L.flatMap AX.cs).set (3 * i + k) v' = (L.set i x').flatMap AX.cs) (hx' : AreaAt base (tagged who w.heap.size v' (T + 2 + 3 * i + k)) w1 (T + 2 + 3 * i) x') :
    ∃ who', AreasAt base who' (w1.setCell ⟨ga, 3 * i + k, none⟩ v') T ga cap (L.set i x') ∧ Turn (T + 1) (T + 2 + 3 * L.length) who w who' (w1.setCell ⟨ga, 3 * i + k, none⟩ v') ∧ Fresh who' (w1.setCell ⟨ga, 3 * i + k, none⟩ v') := by
  have hi := (List.getElem?_eq_some_iff.1 hx).1
  have hgl := (row_blk h.row rfl).2.1
  have hw1 : ∀ b, b < w.heap.size → who b ≠ T + 2 + 3 * i + k → w1.heap[b]? = w.heap[b]? := fun b hb hn => hg.block b hb (fun e => hn (hv b e.symm))
  have hrow1 : w1.ownsRow base 88 3 (.slice (some ⟨ga, 0, none⟩) L.length cap) L.length (L.flatMap AX.cs) := row_keep h.row fun g e hl => by
    cases e; exact hw1 ga hl (by rw [h.wg]; omega)
  have hst := hrow1.stored (3 * i + k) v'
  rw [hcs] at hst
  have hgl1 : ga < w1.heap.size := Nat.lt_of_lt_of_le hgl hg.size
  have hoth : ∀ b, b ≠ ga → (w1.setCell ⟨ga, 3 * i + k, none⟩ v').heap[b]? = w1.heap[b]? := fun b hb => Below.heap_setCell _ _ _ _ hb
  have hsz : (w1.setCell ⟨ga, 3 * i + k, none⟩ v').heap.size = w1.heap.size := by simp [World.setCell]
  have hwga : tagged who w.heap.size v' (T + 2 + 3 * i + k) ga = T + 1 := (tagged_old hgl).trans h.wg
  have hfr : Fresh (tagged who w.heap.size v' (T + 2 + 3 * i + k)) w1 := tagged_fresh hf hg.size hlt
  refine ⟨tagged who w.heap.size v' (T + 2 + 3 * i + k), ⟨?_, hwga, fun j y hy => ?_⟩, ⟨?_, ?_, ?_, ?_, fun b hb hn => ?_, fun b hb => tagged_old hb⟩, hfr.size (by rw [hsz]; exact Nat.le_refl _)⟩
  · rw [List.length_set]; exact hst.1
  · by_cases e : i = j
    · subst e
      rw [List.getElem?_set_self hi] at hy
      cases hy
      refine hx'.keep fun b hb h0 => ⟨hoth b (fun e => ?_), rfl⟩
      subst e
      rw [hwga] at h0
      omega
    · rw [List.getElem?_set_ne e] at hy
      refine (h.each j y hy).keep fun b hb h0 => ⟨?_, tagged_old hb⟩
      rw [hoth b (fun e => by subst e; rw [h.wg] at h0; omega)]
      exact hw1 b hb (by omega)
  · exact hg.os
  · exact hg.tape
  · exact hg.output
  · rw [hsz]; exact hg.size
  · rw [hoth b (fun e => hn (by subst e; rw [h.wg]; omega))]
    exact hw1 b hb (fun e => hn (by rw [e]; omega))
/-- What is read is other bytes. -/
theorem AreasAt.putC {base : Nat} {who : Nat → Nat} {w w1 : World} {T ga cap i : Nat} {L : List AX} {x : AX} {v' : Value} {b : Bs} (h : AreasAt base who w T ga cap L) (hx : L[i]? = some x) (hf : Fresh who w)
    (hg : w.grownBy w1 x.cv.ownBlock) (hb : v'.ownBlock = x.cv.ownBlock ∨ ∀ g, v'.ownBlock = some g → w.heap.size ≤ g) (ho : OB base w1 v' b) :
    ∃ who', AreasAt base who' (w1.setCell ⟨ga, 3 * i, none⟩ v') T ga cap (L.set i { x with cv := v', c := b }) ∧ Turn (T + 1) (T + 2 + 3 * L.length) who w who' (w1.setCell ⟨ga, 3 * i, none⟩ v') ∧ Fresh who' (w1.setCell ⟨ga, 3 * i, none⟩ v') := by
  have ha := h.each i x hx
  have hk : ∀ g, g < w.heap.size → who g ≠ T + 2 + 3 * i → w1.heap[g]? = w.heap[g]? := fun g hl hn => hg.block g hl (fun e => hn (ha.wc g e.symm))
  refine h.put (k := 0) hx hf (by omega) hg ha.wc (fun g e => (row_blk ho e).2.1) ?_ ⟨ho, row_keep ha.l fun g e hl => hk g hl ?_, row_keep ha.p fun g e hl => hk g hl ?_, fun s hs => (ha.steps s hs).keep fun g hl h0 => ⟨hk g hl (by omega), tagged_old hl⟩, tagged_own hb ha.wc, fun g e => (tagged_old (row_blk ha.l e).2.1).trans (ha.wl g e), fun g e => (tagged_old (row_blk ha.p e).2.1).trans (ha.wp g e)⟩
  · have h2 := cs_set hx { x with cv := v', c := b }
    obtain ⟨_, h3, h4⟩ := cs_at hx
    rw [← h2]
    have e1 : ((L.flatMap AX.cs).set (3 * i) v').set (3 * i + 1) x.lv = (L.flatMap AX.cs).set (3 * i) v' := List.set_eq_of_getElem? _ _ (by rw [List.getElem?_set_ne (by omega)]; exact h3)
    have e2 : ((L.flatMap AX.cs).set (3 * i) v').set (3 * i + 2) x.pv = (L.flatMap AX.cs).set (3 * i) v' := List.set_eq_of_getElem? _ _ (by rw [List.getElem?_set_ne (by omega)]; exact h4)
    show _ = (((L.flatMap AX.cs).set (3 * i) v').set (3 * i + 1) x.lv).set (3 * i + 2) x.pv
    rw [e1, e2]; rfl
  · rw [ha.wl g e]; omega
  · rw [ha.wp g e]; omega
/-- What lasts is other bytes. -/
theorem AreasAt.putL {base : Nat} {who : Nat → Nat} {w w1 : World} {T ga cap i : Nat} {L : List AX} {x : AX} {v' : Value} {b : Bs} (h : AreasAt base who w T ga cap L) (hx : L[i]? = some x) (hf : Fresh who w)
    (hg : w.grownBy w1 x.lv.ownBlock) (hb : v'.ownBlock = x.lv.ownBlock ∨ ∀ g, v'.ownBlock = some g → w.heap.size ≤ g) (ho : OB base w1 v' b) :
    ∃ who', AreasAt base who' (w1.setCell ⟨ga, 3 * i + 1, none⟩ v') T ga cap (L.set i { x with lv := v', l := b }) ∧ Turn (T + 1) (T + 2 + 3 * L.length) who w who' (w1.setCell ⟨ga, 3 * i + 1, none⟩ v') ∧ Fresh who' (w1.setCell ⟨ga, 3 * i + 1, none⟩ v') := by
  have ha := h.each i x hx
  have hk : ∀ g, g < w.heap.size → who g ≠ T + 2 + 3 * i + 1 → w1.heap[g]? = w.heap[g]? := fun g hl hn => hg.block g hl (fun e => hn (ha.wl g e.symm))
  refine h.put (k := 1) hx hf (by omega) hg ha.wl (fun g e => (row_blk ho e).2.1) ?_ ⟨row_keep ha.c fun g e hl => hk g hl ?_, ho, row_keep ha.p fun g e hl => hk g hl ?_, fun s hs => (ha.steps s hs).keep fun g hl h0 => ⟨hk g hl (by omega), tagged_old hl⟩, fun g e => (tagged_old (row_blk ha.c e).2.1).trans (ha.wc g e), tagged_own hb ha.wl, fun g e => (tagged_old (row_blk ha.p e).2.1).trans (ha.wp g e)⟩
  · have h2 := cs_set hx { x with lv := v', l := b }
    obtain ⟨h3, _, h4⟩ := cs_at hx
    rw [← h2]
    have e1 : (L.flatMap AX.cs).set (3 * i) x.cv = L.flatMap AX.cs := List.set_eq_of_getElem? _ _ h3
    have e2 : ((L.flatMap AX.cs).set (3 * i + 1) v').set (3 * i + 2) x.pv = (L.flatMap AX.cs).set (3 * i + 1) v' := List.set_eq_of_getElem? _ _ (by rw [List.getElem?_set_ne (by omega)]; exact h4)
    show _ = (((L.flatMap AX.cs).set (3 * i) x.cv).set (3 * i + 1) v').set (3 * i + 2) x.pv
    rw [e1, e2]
  · rw [ha.wc g e]; omega
  · rw [ha.wp g e]; omega
/-- What is pending is something else. -/
theorem AreasAt.putP {base : Nat} {who : Nat → Nat} {w w1 : World} {T ga cap i : Nat} {L : List AX} {x : AX} {v' : Value} {p : List SX} (h : AreasAt base who w T ga cap L) (hx : L[i]? = some x) (hf : Fresh who w)
    (hg : w.grownBy w1 x.pv.ownBlock) (hb : v'.ownBlock = x.pv.ownBlock ∨ ∀ g, v'.ownBlock = some g → w.heap.size ≤ g) (ho : w1.ownsRow base 115 1 v' p.length (p.map SX.v)) (hp : ∀ s ∈ p, s.at_ who w) :
    ∃ who', AreasAt base who' (w1.setCell ⟨ga, 3 * i + 2, none⟩ v') T ga cap (L.set i { x with pv := v', p := p }) ∧ Turn (T + 1) (T + 2 + 3 * L.length) who w who' (w1.setCell ⟨ga, 3 * i + 2, none⟩ v') ∧ Fresh who' (w1.setCell ⟨ga, 3 * i + 2, none⟩ v') := by
  have ha := h.each i x hx
  have hk : ∀ g, g < w.heap.size → who g ≠ T + 2 + 3 * i + 2 → w1.heap[g]? = w.heap[g]? := fun g hl hn => hg.block g hl (fun e => hn (ha.wp g e.symm))
  refine h.put (k := 2) hx hf (by omega) hg ha.wp (fun g e => (row_blk ho e).2.1) ?_ ⟨row_keep ha.c fun g e hl => hk g hl ?_, row_keep ha.l fun g e hl => hk g hl ?_, ho, fun s hs => (hp s hs).keep fun g hl h0 => ⟨hk g hl (by omega), tagged_old hl⟩, fun g e => (tagged_old (row_blk ha.c e).2.1).trans (ha.wc g e), fun g e => (tagged_old (row_blk ha.l e).2.1).trans (ha.wl g e), tagged_own hb ha.wp⟩
  · have h2 := cs_set hx { x with pv := v', p := p }
    obtain ⟨h3, h4, _⟩ := cs_at hx
    rw [← h2]
    have e1 : (L.flatMap AX.cs).set (3 * i) x.cv = L.flatMap AX.cs := List.set_eq_of_getElem? _ _ h3
    have e2 : (L.flatMap AX.cs).set (3 * i + 1) x.lv = L.flatMap AX.cs := List.set_eq_of_getElem? _ _ h4
    show _ = (((L.flatMap AX.cs).set (3 * i) x.cv).set (3 * i + 1) x.lv).set (3 * i + 2) v'
    rw [e1, e2]
  · rw [ha.wc g e]; omega
  · rw [ha.wl g e]; omega
end Go.Proofs.Ytojkifcclgecoaa.Dk
namespace Go.Proofs.Ytojkifcclgecoaa.Dk
open Go Go.RowKit Go.Shelf Go.Proofs

theorem u_content : Try.prog.underlying 85 = some (.slice 5) := Try.underlying85
theorem u_bytes : Try.prog.underlying 29 = some (.slice 5) := Try.underlying29

def GrowW (base : Nat) (p : Addr) (v : Value) (l b : Bs) (w : World) (w' : World) : Prop :=
  ∃ v' w1, OB base w1 v' (l ++ b) ∧ w.grownBy w1 v.ownBlock ∧ (v'.ownBlock = v.ownBlock ∨ ∀ g, v'.ownBlock = some g → w.heap.size ≤ g) ∧ w' = w1.setCell p v'
set_option maxHeartbeats 4000000 in
theorem grow_any (base gp op : Nat) (v : Value) (l : Bs) (A : Option Addr) (c n : Nat) (b : Bs) (w : World) (hc : w.cell? ⟨gp, op, none⟩ = some v) (hf : w.frozen? ⟨gp, op, none⟩ = false) (hown : OB base w v l) (hb : SlAt w A c b) (hn : b.length = n) (hne : v.ownBlock ≠ some gp) (hlen : l.length + b.length ≤ 100000000) (hbase : base ≤ w.heap.size) :
    Calls Try.prog 75 #[.pointer (some ⟨gp, op, none⟩), .slice A n c] w (fun e w' => e = .returned (.tuple #[]) ∧ GrowW base ⟨gp, op, none⟩ v l b w w') := by
  subst hn
  obtain ⟨v', w1, hr, ho, hg, hk⟩ := run_appB w base 85 29 85 u_content u_bytes hown hb hlen hbase
  have hlt : gp < w.heap.size := World.block_lt_of_cell? w (a := ⟨gp, op, none⟩) hc
  have hblk := hg.block gp hlt (fun e => hne e.symm)
  have c1 : w1.cell? ⟨gp, op, none⟩ = some v := (World.cell?_of_block (a := ⟨gp, op, none⟩) hblk).trans hc
  have f1 : w1.frozen? ⟨gp, op, none⟩ = false := (World.frozen?_of_block (a := ⟨gp, op, none⟩) hblk).trans hf
  obtain ⟨A1, c1', hv1, _⟩ := row_slice ho
  obtain ⟨A0, c0, hv0, _⟩ := row_slice hown
  have HP := Lib.hid (show GrowW base ⟨gp, op, none⟩ v l b w (w1.setCell ⟨gp, op, none⟩ v') from ⟨v', w1, ho, hg, hk, rfl⟩)
  generalize (GrowW base ⟨gp, op, none⟩ v l b w) = Post at *
  subst hv1 hv0
  have HR := Lib.hid hr
  clear hr ho hg hk hown hb hblk hlt hne hlen hbase
  go_enter Try.func75, Try.ntmps75
  go_wp2_with (at_builtin; refine Lib.wpList_append_run _ rfl _ _ _ _ rfl _ _ rfl rfl _ _ HR.out ?_)
  rw [← List.length_append]
  go_returns
  exact ⟨rfl, HP.out⟩

set_option maxHeartbeats 4000000 in
theorem cut_any (gp op n k c : Nat) (A : Option Addr) (w : World) (hc : w.cell? ⟨gp, op, none⟩ = some (.slice A n c)) (hf : w.frozen? ⟨gp, op, none⟩ = false) (hk : k ≤ n) (hn : n ≤ c) (hcm : c ≤ maxLen) (hA : ∀ g o s, A = some ⟨g, o, s⟩ → s = none) (hA0 : A = none → c = 0) :
    Calls Try.prog 74 #[.pointer (some ⟨gp, op, none⟩), .int .i64 (k : Int)] w (fun e w' => e = .returned (.tuple #[]) ∧ w' = w.setCell ⟨gp, op, none⟩ (.slice A k c)) := by
  unfold maxLen at hcm
  have q1 : (k : Int) ≤ (c : Int) := by omega
  have q2 : (0 : Int) ≤ (k : Int) := by omega
  cases A with
  | none =>
    obtain rfl := hA0 rfl
    obtain rfl : k = 0 := by omega
    go_enter Try.func74, Try.ntmps74
    go_wp2_with fail
    go_returns
    exact ⟨rfl, rfl⟩
  | some a =>
    obtain ⟨g, o, s⟩ := a
    obtain rfl := hA g o s rfl
    clear hA hA0
    go_enter Try.func74, Try.ntmps74
    go_wp2_with fail
    go_returns
    exact ⟨rfl, rfl⟩

theorem gcount_any (A : Option Addr) (n c : Nat) (w : World) : Calls Try.prog 107 #[.slice A n c] w fun e w' => e = .returned (.int .i64 (n : Int)) ∧ w' = w := by
  go_enter Try.func107, Try.ntmps107
  go_wp2_with fail
  go_ret
  exact ⟨rfl, rfl⟩
theorem kcount_any (v : Value) (w : World) : Calls Try.prog 109 #[v] w fun e w' => e = .returned (.int .i64 1) ∧ w' = w := by
  go_enter Try.func109, Try.ntmps109
  go_wp2_with fail
  go_ret
  exact ⟨rfl, rfl⟩
theorem size_any (A : Option Addr) (n c : Nat) (w : World) : Calls Try.prog 66 #[.slice A n c] w fun e w' => e = .returned (.int .i64 (n : Int)) ∧ w' = w := by
  go_enter Try.func66, Try.ntmps66
  go_wp2_with fail
  go_ret
  exact ⟨rfl, rfl⟩
set_option maxHeartbeats 4000000 in
theorem gdo_any (base gp op : Nat) (v : Value) (l : Bs) (A : Option Addr) (c n k : Nat) (b : Bs) (w : World) (hc : w.cell? ⟨gp, op, none⟩ = some v) (hf : w.frozen? ⟨gp, op, none⟩ = false) (hown : OB base w v l) (hb : SlAt w A c b) (hn : b.length = n) (hk : k ≤ n) (hne : v.ownBlock ≠ some gp) (hlen : l.length + b.length ≤ 100000000) (hbase : base ≤ w.heap.size) :
    Calls Try.prog 108 #[.slice A n c, .pointer (some ⟨gp, op, none⟩), .int .i64 (k : Int)] w (fun e w' => e = .returned (.tuple #[]) ∧ GrowW base ⟨gp, op, none⟩ v l (b.take k) w w') := by
  have htl : (b.take k).length = k := by rw [List.length_take]; omega
  have HG := Lib.hid (grow_any base gp op v l A c k (b.take k) w hc hf hown (hb.take k) htl hne (by omega) hbase)
  have hcap := hb.cap
  have hcm := hb.c63
  have q1 : (k : Int) ≤ (c : Int) := by omega
  have q2 : (0 : Int) ≤ (k : Int) := by omega
  generalize (GrowW base ⟨gp, op, none⟩ v l (b.take k) w) = Post at *
  cases A with
  | none =>
    obtain ⟨rfl, rfl⟩ := hb.empty
    obtain rfl : n = 0 := by simpa using hn.symm
    obtain rfl : k = 0 := by omega
    clear hc hf hown hb hne hlen hbase htl
    go_enter Try.func108, Try.ntmps108
    go_wp2_with fail
    refine HG.out.mono ?_
    rintro e w' ⟨rfl, hp⟩
    have HP := Lib.hid hp; clear hp
    go_wp2_with fail
    go_returns
    exact ⟨rfl, HP.out⟩
  | some a =>
    obtain ⟨g, o, s⟩ := a
    have hs : 0 < b.length → s = none := fun h => by obtain ⟨g', o', e⟩ := hb.addr h; cases e; rfl
    clear hc hf hown hb hne hlen hbase htl
    go_enter Try.func108, Try.ntmps108
    go_wp2_with fail
    refine HG.out.mono ?_
    rintro e w' ⟨rfl, hp⟩
    have HP := Lib.hid hp; clear hp
    go_wp2_with fail
    go_returns
    exact ⟨rfl, HP.out⟩
theorem kdo_no (n : Int) (p : Value) (w : World) : Calls Try.prog 110 #[.int .i64 n, p, .int .i64 0] w fun e w' => e = .returned (.tuple #[]) ∧ w' = w := by
  go_enter Try.func110, Try.ntmps110
  go_wp2_with fail
  go_returns
  exact ⟨rfl, rfl⟩
set_option maxHeartbeats 4000000 in
theorem kdo_any (gp op n k c m : Nat) (A : Option Addr) (w : World) (hm : 0 < m) (hc : w.cell? ⟨gp, op, none⟩ = some (.slice A n c)) (hf : w.frozen? ⟨gp, op, none⟩ = false) (hk : k ≤ n) (hn : n ≤ c) (hcm : c ≤ maxLen) (hA : ∀ g o s, A = some ⟨g, o, s⟩ → s = none) (hA0 : A = none → c = 0) :
    Calls Try.prog 110 #[.int .i64 (k : Int), .pointer (some ⟨gp, op, none⟩), .int .i64 (m : Int)] w (fun e w' => e = .returned (.tuple #[]) ∧ w' = w.setCell ⟨gp, op, none⟩ (.slice A k c)) := by
  have HC := Lib.hid (cut_any gp op n k c A w hc hf hk hn hcm hA hA0)
  clear hc hf hk hn hcm hA hA0
  go_enter Try.func110, Try.ntmps110
  go_wp2_with fail
  refine HC.out.mono ?_
  rintro e w' ⟨rfl, rfl⟩
  go_wp2_with fail
  go_returns
  exact ⟨rfl, rfl⟩
end Go.Proofs.Ytojkifcclgecoaa.Dk
