/-
  Rows of bytes that a law gathers beside a journal.
-/
import Derived.Test.YtojkifcclgecoaaJnKnown
namespace Go.Proofs.Ytojkifcclgecoaa
open Go Go.RowKit Go.Shelf Go.Proofs Go.Proofs.Ytojkifcclgecoaa.Dk

/-- A row of the law's own, of bytes that were handed in; its block bears the tag 30. -/
structure MineAt (w0 : World) (who : Nat → Nat) (w : World) (v : Value) (rows : List BX) : Prop where
  own : w.ownsRow w0.heap.size 29 1 v rows.length (rows.map BX.v)
  tag : ∀ q, v.ownBlock = some q → who q = 30
  each : ∀ x ∈ rows, SlAt w0 x.A x.c x.b ∧ x.b.length ≤ 1000000
theorem MineAt.nil (w0 : World) (who : Nat → Nat) (w : World) : MineAt w0 who w (.slice none 0 0) [] := ⟨World.ownsRow_nil _ _ _ _, fun q e => (by cases e), fun x hx => by cases hx⟩
theorem MineAt.turn {w0 w w' : World} {who who' : Nat → Nat} {v : Value} {rows : List BX} {lo hi : Nat} (h : MineAt w0 who w v rows) (ht : Turn lo hi who w who' w') (hh : hi ≤ 30 ∨ 30 < lo) : MineAt w0 who' w' v rows :=
  ⟨row_keep h.own fun g e hl => ht.block g hl (by rw [h.tag g e]; omega), fun q e => (ht.same q (row_blk h.own e).2.1).trans (h.tag q e), h.each⟩
theorem MineAt.below {w0 w w' : World} {who : Nat → Nat} {v : Value} {rows : List BX} (h : MineAt w0 who w v rows) (hb : Below w.heap.size w w') : MineAt w0 who w' v rows := h.turn (lo := 0) (hi := 0) (Turn.below hb) (by omega)
theorem MineAt.sl {w0 w : World} {who : Nat → Nat} {v : Value} {rows : List BX} (h : MineAt w0 who w v rows) (hb : Below w0.heap.size w0 w) : ∃ A c, v = .slice A rows.length c ∧ BRowAt w A c rows := by
  have hl : ∀ x ∈ rows, x.b.length ≤ x.c ∧ x.c ≤ maxLen ∧ x.b.length ≤ reachBytes := fun x hx => by
    have h1 := h.each x hx
    exact ⟨h1.1.cap, h1.1.capm, by unfold reachBytes; omega⟩
  rcases h.own.2 with ⟨rfl, hn⟩ | ⟨g, cap, cur, rfl, hng, hg, hnc, hcm, _⟩
  · obtain rfl := List.eq_nil_of_length_eq_zero hn
    exact ⟨none, 0, rfl, BRowAt.nil _ _ _ (Nat.zero_le _)⟩
  · refine ⟨_, _, rfl, hnc, hcm, fun _ => ⟨g, 0, rfl, fun i x hi => ?_⟩, fun x hx => ((h.each x hx).1.below hb).bytes, hl⟩
    have h1 := World.ownsRow.cells h.own (g := g) rfl i x.v (by rw [List.getElem?_map, hi]; rfl)
    rw [Go.WideShapes.add_plain] at h1
    exact h1
/-- A journal stays where other tags turn. -/
theorem JS.turn {B : Nat} {who who' : Nat → Nat} {w w' : World} {T U g gj n q : Nat} {d : DDk} (h : JS B who w T g gj d n q) (ht : Turn U (U + 26) who w who' w') (hf : Fresh who' w') (hU : 0 < U) (hne : U + 26 ≤ T ∨ T + 27 ≤ U) : JS B who' w' T g gj d n q :=
  ⟨h.ds.turn ht hf hU (by omega), (ht.block gj h.lt (by rw [h.wj]; omega)).trans h.jb, (ht.same gj h.lt).trans h.wj, h.q64⟩
theorem mine_info : (Try.prog.info? 29).map (fun i => (i.zero, i.size, i.bytes)) = some (some (.slice none 0 0), 1, 24) := by kernel_rfl
/-- More rows. -/
theorem MineAt.app {w0 w : World} {who : Nat → Nat} {v : Value} {rows : List BX} (h : MineAt w0 who w v rows) (hf : Fresh who w) (hb : w0.heap.size ≤ w.heap.size) (ys : List BX) (A : Option Addr) (m c : Nat) (hm : ys.length = m) (hA : A = none → m = 0 ∧ c = 0) (hA2 : ∀ a, A = some a → ∀ j u, (ys.map BX.v)[j]? = some u → w.cell? (a.add j) = some u)
    (hys : ∀ x ∈ ys, SlAt w0 x.A x.c x.b ∧ x.b.length ≤ 1000000) (hl : rows.length + m ≤ 1000000) :
    ∃ v' w' who', (Builtin.append_ #[30, 30] 30 #[v, .slice A m c]).run Try.prog w = .ok v' w' ∧ MineAt w0 who' w' v' (rows ++ ys) ∧ Turn 30 56 who w who' w' ∧ Fresh who' w' := by
  obtain ⟨v', w', hr, ho, hg, hk⟩ := run_appX (P := Try.prog) w w0.heap.size 30 30 30 29 mine_info Try.underlying30 Try.underlying30 rfl (by decide) h.own A m c (ys.map BX.v) (by rw [List.length_map, hm, Nat.mul_one]) hA hA2 (fun u hu => by
    obtain ⟨y, _, rfl⟩ := List.mem_map.1 hu; rfl) (by unfold maxLen; omega) (by omega) hb
  have ho2 : w'.ownsRow w0.heap.size 29 1 v' (rows ++ ys).length ((rows ++ ys).map BX.v) := by rw [List.length_append, List.map_append, hm]; exact ho
  have hlt : ∀ q, v'.ownBlock = some q → q < w'.heap.size := fun q e => (row_blk ho2 e).2.1
  have ht : Turn 30 31 who w (tagged who w.heap.size v' 30) w' := Turn.grown hg h.tag fun q hq => tagged_old hq
  refine ⟨v', w', tagged who w.heap.size v' 30, hr, ⟨ho2, tagged_own hk h.tag, fun x hx => ?_⟩, ht.wider (Nat.le_refl _) (by omega), tagged_fresh hf hg.size hlt⟩
  rcases List.mem_append.1 hx with hx | hx
  · exact h.each x hx
  · exact hys x hx
/-- One more. -/
theorem MineAt.one {w0 w : World} {who : Nat → Nat} {v : Value} {rows : List BX} (h : MineAt w0 who w v rows) (hf : Fresh who w) (hb : w0.heap.size ≤ w.heap.size) (x : BX) (hx : SlAt w0 x.A x.c x.b) (hxl : x.b.length ≤ 1000000) (hl : rows.length + 1 ≤ 1000000) :
    ∃ v' w' who', (Builtin.append_ #[30, 30] 30 #[v, .slice (some ⟨w.heap.size, 0, none⟩) 1 1]).run Try.prog (w.alloc (.cells #[.slice x.A x.b.length x.c] 29)) = .ok v' w' ∧ MineAt w0 who' w' v' (rows ++ [x]) ∧ Turn 30 56 who w who' w' ∧ Fresh who' w' := by
  have b1 : Below w.heap.size w (w.alloc (.cells #[.slice x.A x.b.length x.c] 29)) := (Below.refl _ _).alloc (Nat.le_refl _) _
  obtain ⟨v', w', who', h1, h2, h3, h4⟩ := (h.below b1).app (hf.size b1.size) (Nat.le_trans hb b1.size) [x] (some ⟨w.heap.size, 0, none⟩) 1 1 rfl (fun e => by cases e) (fun a e j u hu => by
    cases e
    have hj : j < 1 := (List.getElem?_eq_some_iff.1 hu).1
    obtain rfl : j = 0 := by omega
    rw [Go.WideShapes.add_plain]
    exact (cell_of_row _ _ 0 _ _ _ (heap_alloc_new w _)).trans hu) (fun y hy => by
    obtain rfl : y = x := by simpa using hy
    exact ⟨hx, hxl⟩) hl
  exact ⟨v', w', who', h1, h2, (Turn.below b1).trans h3, h4⟩
end Go.Proofs.Ytojkifcclgecoaa
