/-
  Bytes that the law itself gathers beside a disk; rows of bytes.
-/
import Derived.Test.YtojkifcclgecoaaDkKnown
import Derived.Test.YtojkifcclgecoaaDkCalm
import Derived.Test.YtojkifcclgecoaaDkOpen
namespace Go.Proofs.Ytojkifcclgecoaa.Dk
open Go Go.RowKit Go.Shelf Go.Proofs

/-- A disk, and bytes beside it whose block bears the tag U. -/
def Side (w0 : World) (B g : Nat) (d : DDk) (n : Nat) (U : Nat) (v : Value) (s : Bs) (w : World) : Prop :=
  ∃ who, DS B who w 1 g d n ∧ Turn 1 300 (fun _ => 0) w0 who w ∧ OB w0.heap.size w v s ∧ (∀ q, v.ownBlock = some q → who q = U) ∧ B = w0.heap.size
theorem Side.size {w0 w : World} {B g n U : Nat} {d : DDk} {v : Value} {s : Bs} (h : Side w0 B g d n U v s w) : Below w0.heap.size w0 w := by
  obtain ⟨who, h1, h2, _⟩ := h
  exact h2.zero (by omega)
theorem Side.below {w0 w w' : World} {B g n U : Nat} {d : DDk} {v : Value} {s : Bs} (h : Side w0 B g d n U v s w) (hb : Below w.heap.size w w') : Side w0 B g d n U v s w' := by
  obtain ⟨who, h1, h2, h3, h4, h5⟩ := h
  exact ⟨who, h1.below hb, h2.trans (Turn.below hb), row_keep h3 fun q _ hl => hb.block q hl, h4, h5⟩
/-- What the disk does. -/
theorem Side.disk {w0 w w' : World} {B g n n' U : Nat} {d d' : DDk} {v : Value} {s : Bs} {who : Nat → Nat} (_h1 : DS B who w 1 g d n) (h2 : Turn 1 300 (fun _ => 0) w0 who w) (h3 : OB w0.heap.size w v s) (h4 : ∀ q, v.ownBlock = some q → who q = U) (h5 : B = w0.heap.size) (hU : 27 ≤ U) (hp : DP B who w 1 g d' n' w') : Side w0 B g d' n' U v s w' := by
  obtain ⟨who', k1, k2⟩ := hp
  exact ⟨who', k1, h2.trans (k2.wider (by omega) (by omega)), row_keep h3 fun q e hl => k2.block q hl (by rw [h4 q e]; omega), fun q e => (k2.same q (row_blk h3 e).2.1).trans (h4 q e), h5⟩
/-- What the law appends. -/
theorem Side.app {w0 w : World} {B g n U : Nat} {d : DDk} {v : Value} {s : Bs} (h : Side w0 B g d n U v s w) (hU : 27 ≤ U) (hU2 : U < 300) {A : Option Addr} {c : Nat} {b : Bs} (hb : SlAt w A c b) (hl : s.length + b.length ≤ 100000000) :
    ∃ v' w', (Builtin.append_ #[29, 29] 29 #[v, .slice A b.length c]).run Try.prog w = .ok v' w' ∧ Side w0 B g d n U v' (s ++ b) w' := by
  obtain ⟨who, h1, h2, h3, h4, h5⟩ := h
  have hs0 : w0.heap.size ≤ w.heap.size := h2.size
  obtain ⟨v', w', hr, ho, hg, hk⟩ := run_appB w w0.heap.size 29 29 29 u_bytes u_bytes h3 hb hl hs0
  have hlt : ∀ q, v'.ownBlock = some q → q < w'.heap.size := fun q e => (row_blk ho e).2.1
  have ht : Turn U (U + 1) who w (tagged who w.heap.size v' U) w' := Turn.grown hg h4 fun q hq => tagged_old hq
  have hf : Fresh (tagged who w.heap.size v' U) w' := tagged_fresh h1.fresh hg.size hlt
  refine ⟨v', w', hr, _, ⟨h1.at_.keep h1.fits fun q hq h0 => ⟨ht.block q hq (by omega), ht.same q hq⟩, h1.fits, hf, Nat.le_trans h1.le hg.size⟩, h2.trans (ht.wider (by omega) (by omega)), ho, tagged_own hk h4, h5⟩
/-- The bytes beside it, for reading. -/
theorem Side.sl {w0 w : World} {B g n U : Nat} {d : DDk} {v : Value} {s : Bs} (h : Side w0 B g d n U v s w) : ∃ A c, v = .slice A s.length c ∧ SlAt w A c s := by
  obtain ⟨who, h1, h2, h3, h4, h5⟩ := h
  obtain ⟨A, c, e, hs, _⟩ := OB.sl h3
  exact ⟨A, c, e, hs⟩
theorem Side.first {w0 w : World} {B g n : Nat} {d : DDk} {who : Nat → Nat} (U : Nat) (h1 : DS B who w 1 g d n) (h2 : Turn 1 27 (fun _ => 0) w0 who w) (h5 : B = w0.heap.size) : Side w0 B g d n U (.slice none 0 0) [] w :=
  ⟨who, h1, h2.wider (by omega) (by omega), OB.nil _ _, (fun q e => by cases e), h5⟩
/-- Other bytes beside it, none as yet. -/
theorem Side.other {w0 w : World} {B g n U : Nat} {d : DDk} {v : Value} {s : Bs} (h : Side w0 B g d n U v s w) (V : Nat) : Side w0 B g d n V (.slice none 0 0) [] w := by
  obtain ⟨who, h1, h2, h3, h4, h5⟩ := h
  exact ⟨who, h1, h2, OB.nil _ _, (fun q e => by cases e), h5⟩

section
variable {w0 w : World} {B g n U : Nat} {d : DDk} {v : Value} {s : Bs}
theorem Side.append (h : Side w0 B g d n U v s w) (hU : 27 ≤ U) (hn : n ≤ 1000000) (a : Int) {A : Option Addr} {c m : Nat} {b : Bs} (hs : SlAt w0 A c b) (hbm : b.length = m) (hm : m ≤ 1000000) :
    Calls Try.prog 25 #[.pointer (some ⟨g, 0, none⟩), .int .i64 a, .slice A m c] w fun e w' => e = .returned (.int .i64 (appendE d a b : Nat)) ∧ Side w0 B g (appendD d a b) (n + b.length) U v s w' := by
  obtain ⟨who, h1, h2, h3, h4, h5⟩ := h
  exact (h1.append (by omega) hn a (hs.below (h2.zero (by omega))) hbm hm (hs.who h2)).mono fun _ _ ⟨e, k⟩ => ⟨e, Side.disk h1 h2 h3 h4 h5 hU k⟩
theorem Side.sync (h : Side w0 B g d n U v s w) (hU : 27 ≤ U) (hn : n ≤ 1000000) (a : Int) :
    Calls Try.prog 43 #[.pointer (some ⟨g, 0, none⟩), .int .i64 a] w fun e w' => e = .returned (.int .i64 (syncE d a : Nat)) ∧ Side w0 B g (syncD d a) n U v s w' := by
  obtain ⟨who, h1, h2, h3, h4, h5⟩ := h
  exact (h1.sync (by omega) hn a).mono fun _ _ ⟨e, k⟩ => ⟨e, Side.disk h1 h2 h3 h4 h5 hU k⟩
theorem Side.restart (h : Side w0 B g d n U v s w) (hU : 27 ≤ U) (hn : n ≤ 1000000) (k : Int) (hk : k ≤ 9223372036854775807) :
    Calls Try.prog 19 #[.pointer (some ⟨g, 0, none⟩), .int .i64 k] w fun e w' => e = .returned (.tuple #[]) ∧ Side w0 B g (d.restart k) n U v s w' := by
  obtain ⟨who, h1, h2, h3, h4, h5⟩ := h
  exact (h1.restart (by omega) hn k hk).mono fun _ _ ⟨e, k'⟩ => ⟨e, Side.disk h1 h2 h3 h4 h5 hU k'⟩
theorem Side.read (h : Side w0 B g d n U v s w) (hn : n ≤ 1000000) (a : Int) :
    Calls Try.prog 24 #[.pointer (some ⟨g, 0, none⟩), .int .i64 a] w fun e w' => ∃ A c, e = .returned (.slice A (d.readL a).length c) ∧ SlAt w' A c (d.readL a) ∧ Side w0 B g d n U v s w' ∧ Below w.heap.size w w' := by
  have h' := h
  obtain ⟨who, h1, h2, h3, h4, h5⟩ := h
  refine (h1.read hn a).mono ?_
  rintro e w' ⟨v', rfl, ho, hb⟩
  obtain ⟨A, c, rfl, hs, _⟩ := OB.sl ho
  exact ⟨A, c, rfl, hs, h'.below hb, hb⟩
theorem Side.lasting (h : Side w0 B g d n U v s w) (hn : n ≤ 1000000) (a : Int) :
    Calls Try.prog 36 #[.pointer (some ⟨g, 0, none⟩), .int .i64 a] w fun e w' => ∃ A c, e = .returned (.slice A (d.lastL a).length c) ∧ SlAt w' A c (d.lastL a) ∧ Side w0 B g d n U v s w' ∧ Below w.heap.size w w' := by
  have h' := h
  obtain ⟨who, h1, h2, h3, h4, h5⟩ := h
  refine (h1.lasting hn a).mono ?_
  rintro e w' ⟨v', rfl, ho, hb⟩
  obtain ⟨A, c, rfl, hs, _⟩ := OB.sl ho
  exact ⟨A, c, rfl, hs, h'.below hb, hb⟩
end

/-- How many bytes; all of them. -/
def sumX (l : List BX) : Nat := (l.map fun x => x.b.length).sum
def joinX (l : List BX) : Bs := l.flatMap fun x => x.b
theorem sumX_snoc {l : List BX} {k : Nat} {x : BX} (h : l[k]? = some x) : sumX (l.take (k + 1)) = sumX (l.take k) + x.b.length := by
  unfold sumX; rw [List.take_add_one, h]; simp
theorem joinX_snoc {l : List BX} {k : Nat} {x : BX} (h : l[k]? = some x) : joinX (l.take (k + 1)) = joinX (l.take k) ++ x.b := by
  unfold joinX; rw [List.take_add_one, h, List.flatMap_append]; simp
theorem joinX_length (l : List BX) : (joinX l).length = sumX l := by
  unfold joinX sumX; rw [List.length_flatMap]
theorem sumX_take_le (l : List BX) (k : Nat) : sumX (l.take k) ≤ sumX l := by
  unfold sumX
  conv => rhs; rw [← List.take_append_drop k l, List.map_append, List.sum_append]
  omega
theorem sumX_big {l : List BX} {q : Nat} (h : ∀ x ∈ l, x.b.length ≤ reachBytes) (hl : l.length ≤ q) : sumX l ≤ q * reachBytes := by
  have : sumX l ≤ l.length * reachBytes := by
    unfold sumX
    induction l with
    | nil => simp
    | cons x r ih =>
      have h1 := ih (fun y hy => h y (List.mem_cons_of_mem _ hy)) (by simp at hl; omega)
      have h2 := h x (List.mem_cons_self ..)
      rw [List.map_cons, List.sum_cons, List.length_cons, Nat.add_mul]
      omega
  exact Nat.le_trans this (Nat.mul_le_mul_right _ hl)
theorem BRowAt.at_ {w : World} {A : Option Addr} {c : Nat} {l : List BX} (h : BRowAt w A c l) {i : Nat} {x : BX} (hx : l[i]? = some x) : ∃ g o, A = some ⟨g, o, none⟩ ∧ w.cell? ⟨g, o + i, none⟩ = some (.slice x.A x.b.length x.c) := by
  obtain ⟨g, o, e, hr⟩ := h.row (by have := (List.getElem?_eq_some_iff.1 hx).1; omega)
  exact ⟨g, o, e, hr i x hx⟩
theorem BRowAt.sl {w : World} {A : Option Addr} {c : Nat} {l : List BX} (h : BRowAt w A c l) (hn : ∀ x ∈ l, x.A = none → x.c = 0) {x : BX} (hx : x ∈ l) : SlAt w x.A x.c x.b := ⟨h.bytes x hx, (h.caps x hx).1, (h.caps x hx).2.1, hn x hx⟩
end Go.Proofs.Ytojkifcclgecoaa.Dk
