/-
  A disk in memory; its power; what only reads of it.
-/
import Derived.Test.YtojkifcclgecoaaDkSettle
import Derived.Deep.QuietTactic
namespace Go.Proofs.Ytojkifcclgecoaa.Dk
open Go Go.RowKit Go.Shelf Go.Proofs

/-- A disk's own block. -/
def HeadAt (w : World) (g : Nat) (pw : Option Nat) (dead : Bool) (X : Value) (room : Nat) : Prop :=
  ∃ u : Int, w.heap[g]? = some (.cells #[.bool pw.isSome, .int .i64 u, .bool dead, X, .int .i64 (room : Int)] 72 (0, 0)) ∧ ∀ k, pw = some k → u = k
theorem HeadAt.keep {w w' : World} {g room : Nat} {pw : Option Nat} {dead : Bool} {X : Value} (h : HeadAt w g pw dead X room) (hk : w'.heap[g]? = w.heap[g]?) : HeadAt w' g pw dead X room := by
  obtain ⟨u, h1, h2⟩ := h
  exact ⟨u, hk.trans h1, h2⟩
theorem HeadAt.cells {w : World} {g room : Nat} {pw : Option Nat} {dead : Bool} {X : Value} (h : HeadAt w g pw dead X room) : g < w.heap.size ∧ w.cell? ⟨g, 0, none⟩ = some (.bool pw.isSome) ∧ w.cell? ⟨g, 2, none⟩ = some (.bool dead) ∧ w.cell? ⟨g, 3, none⟩ = some X ∧ w.cell? ⟨g, 4, none⟩ = some (.int .i64 (room : Int)) ∧ (∀ k, pw = some k → w.cell? ⟨g, 1, none⟩ = some (.int .i64 (k : Int))) ∧ (∃ u : Int, w.cell? ⟨g, 1, none⟩ = some (.int .i64 u)) ∧ ∀ j, w.frozen? ⟨g, j, none⟩ = false := by
  obtain ⟨u, h1, h2⟩ := h
  refine ⟨(Array.getElem?_eq_some_iff.1 h1).1, cell_of_row w g 0 _ _ _ h1, cell_of_row w g 2 _ _ _ h1, cell_of_row w g 3 _ _ _ h1, cell_of_row w g 4 _ _ _ h1, fun k e => ?_, ⟨u, cell_of_row w g 1 _ _ _ h1⟩, fun j => frozen_of_row w g j _ _ h1⟩
  rw [← h2 k e]
  exact cell_of_row w g 1 _ _ _ h1
/-- Only block g turns. -/
structure OnlyB (w : World) (g : Nat) (w' : World) : Prop where
  os : w'.os = w.os
  tape : w'.tape = w.tape
  output : w'.output = w.output
  size : w'.heap.size = w.heap.size
  block : ∀ k, k ≠ g → w'.heap[k]? = w.heap[k]?
theorem OnlyB.refl (w : World) (g : Nat) : OnlyB w g w := ⟨rfl, rfl, rfl, rfl, fun _ _ => rfl⟩
theorem OnlyB.set (w : World) (g j : Nat) (v : Value) : OnlyB w g (w.setCell ⟨g, j, none⟩ v) := ⟨rfl, rfl, rfl, by simp [World.setCell], fun k hk => Below.heap_setCell _ _ _ _ hk⟩
theorem OnlyB.trans {a b c : World} {g : Nat} (h : OnlyB a g b) (k : OnlyB b g c) : OnlyB a g c := ⟨k.os.trans h.os, k.tape.trans h.tape, k.output.trans h.output, k.size.trans h.size, fun i hi => (k.block i hi).trans (h.block i hi)⟩

def spendN (pw : Option Nat) (n : Nat) : Nat := match pw with | none => n | some k => min n k
def afterP (pw : Option Nat) (n : Nat) : Option Nat := match pw with | none => none | some k => some (k - min n k)
def afterD (pw : Option Nat) (dead : Bool) (n : Nat) : Bool := match pw with | none => dead | some k => decide (min n k < n)
theorem spend_any (g n room : Nat) (pw : Option Nat) (dead : Bool) (X : Value) (w : World) (h : HeadAt w g pw dead X room) (hk : ∀ k, pw = some k → k ≤ 1000000000) (hn : n ≤ 1000000000) :
    Calls Try.prog 56 #[.pointer (some ⟨g, 0, none⟩), .int .i64 (n : Int)] w fun e w' => e = .returned (.int .i64 (spendN pw n : Nat)) ∧ HeadAt w' g (afterP pw n) (afterD pw dead n) X room ∧ OnlyB w g w' := by
  obtain ⟨hlt, c0, c2, c3, c4, c1, _, f⟩ := h.cells
  have HH := Lib.hid h
  cases pw with
  | none =>
    have c0 : w.cell? ⟨g, 0, none⟩ = some (.bool false) := c0
    clear h c1 c2 c3 c4 hk
    go_enter Try.func56, Try.ntmps56
    go_wp2_with fail
    go_ret
    exact ⟨rfl, HH.out, OnlyB.refl _ _⟩
  | some k =>
    have c0 : w.cell? ⟨g, 0, none⟩ = some (.bool true) := c0
    have c1 := c1 k rfl
    have hk := hk k rfl
    have f1 := f 1
    have f2 := f 2
    obtain ⟨u, h1, h2⟩ := h
    obtain rfl := h2 k rfl
    have e1 := heap_setCell_same w g 1 _ _ (.int .i64 ((k - min n k : Nat) : Int)) h1
    have e2 := heap_setCell_same _ g 2 _ _ (.bool (decide (min n k < n))) e1
    have HF := Lib.hid (show HeadAt ((w.setCell ⟨g, 1, none⟩ (.int .i64 ((k - min n k : Nat) : Int))).setCell ⟨g, 2, none⟩ (.bool (decide (min n k < n)))) g (afterP (some k) n) (afterD (some k) dead n) X room from ⟨_, e2, fun q e => by cases e; rfl⟩)
    have HO := Lib.hid ((OnlyB.set w g 1 (.int .i64 ((k - min n k : Nat) : Int))).trans (OnlyB.set _ g 2 (.bool (decide (min n k < n)))))
    have hmin : min (n : Int) (k : Int) = ((min n k : Nat) : Int) := by omega
    have hsub : (k : Int) - ((min n k : Nat) : Int) = ((k - min n k : Nat) : Int) := by omega
    have hm1 : min n k ≤ n := by omega
    have hm2 : min n k ≤ k := by omega
    have c2' : w.cell? ⟨g, 2, none⟩ = some (.bool dead) := c2
    have ff : (w.setCell ⟨g, 1, none⟩ (.int .i64 ((k - min n k : Nat) : Int))).frozen? ⟨g, 2, none⟩ = false := frozen_of_row _ g 2 _ _ e1
    have cc : (w.setCell ⟨g, 1, none⟩ (.int .i64 ((k - min n k : Nat) : Int))).cell? ⟨g, 2, none⟩ = some (.bool dead) := cell_of_row _ g 2 _ _ _ e1
    clear h1 e1 e2 c2 c3 c4 HH h2
    show Calls _ _ _ _ (fun e w' => e = .returned (.int .i64 ((min n k : Nat) : Int)) ∧ _)
    generalize hm : min n k = m at *
    generalize hd : k - m = q at *
    have HM := Lib.hid hm
    clear hm hd
    go_enter Try.func56, Try.ntmps56
    go_wp2_with fail
    go_ret
    exact ⟨rfl, HF.out, HO.out⟩

theorem state_any (g room : Nat) (pw : Option Nat) (dead : Bool) (X : Value) (w : World) (h : HeadAt w g pw dead X room) :
    Calls Try.prog 59 #[.pointer (some ⟨g, 0, none⟩)] w fun e w' => e = .returned (.int .i64 (stateN dead : Nat)) ∧ w' = w := by
  obtain ⟨hlt, _, c2, _⟩ := h.cells
  clear h
  cases dead with
  | true =>
    go_enter Try.func59, Try.ntmps59
    go_wp2_with fail
    go_ret
    exact ⟨rfl, rfl⟩
  | false =>
    go_enter Try.func59, Try.ntmps59
    go_wp2_with fail
    go_ret
    exact ⟨rfl, rfl⟩

/-- A disk, in memory; its blocks have the tags from T on. -/
def DiskAt (base : Nat) (who : Nat → Nat) (w : World) (T g : Nat) (d : DDk) : Prop :=
  ∃ ga cap L, HeadAt w g d.pw d.dead (.slice (some ⟨ga, 0, none⟩) L.length cap) d.room ∧ who g = T ∧ base ≤ g ∧ AreasAt base who w T ga cap L ∧ d.as = L.map AX.ar ∧ (∀ x ∈ L, x.ok) ∧ d.sane
theorem DiskAt.keep {base : Nat} {who who' : Nat → Nat} {w w' : World} {T g : Nat} {d : DDk} {n : Nat} (h : DiskAt base who w T g d) (hd : d.fits n) (hk : ∀ b, b < w.heap.size → who b = 0 ∨ (T ≤ who b ∧ who b < T + 26) → w'.heap[b]? = w.heap[b]? ∧ who' b = who b) : DiskAt base who' w' T g d := by
  obtain ⟨ga, cap, L, h1, h2, h3, h4, h5, h6⟩ := h
  have hg := h1.cells.1
  have h8 : L.length ≤ 8 := by have := hd.1; rw [h5, List.length_map] at this; exact this
  obtain ⟨k1, k2⟩ := hk g hg (.inr (by omega))
  exact ⟨ga, cap, L, h1.keep k1, k2.trans h2, h3, h4.keep fun b hb h0 => hk b hb (by rcases h0 with h0 | h0; exact .inl h0; exact .inr (by omega)), h5, h6⟩
theorem DiskAt.turn {base : Nat} {who who' : Nat → Nat} {w w' : World} {T U g : Nat} {d : DDk} {n : Nat} (h : DiskAt base who w T g d) (hd : d.fits n) (ht : Turn U (U + 26) who w who' w') (hU : 0 < U) (hne : U + 26 ≤ T ∨ T + 26 ≤ U) : DiskAt base who' w' T g d :=
  h.keep hd fun b hb h0 => ⟨ht.block b hb (by omega), ht.same b hb⟩
theorem DiskAt.below {base : Nat} {who : Nat → Nat} {w w' : World} {T g : Nat} {d : DDk} {n : Nat} (h : DiskAt base who w T g d) (hd : d.fits n) (hb : Below w.heap.size w w') : DiskAt base who w' T g d :=
  h.keep hd fun b hl _ => ⟨hb.block b hl, rfl⟩

theorem has_any (base : Nat) (who : Nat → Nat) (w : World) (T g : Nat) (d : DDk) (a : Int) (n : Nat) (h : DiskAt base who w T g d) (hd : d.fits n) :
    Calls Try.prog 53 #[.pointer (some ⟨g, 0, none⟩), .int .i64 a] w fun e w' => e = .returned (.bool (d.has a)) ∧ w' = w := by
  obtain ⟨ga, cap, L, h1, h2, h3, h4, h5, h6⟩ := h
  obtain ⟨hlt, _, _, c3, _⟩ := h1.cells
  have hl : d.as.length = L.length := by rw [h5, List.length_map]
  have h8 := hd.1
  unfold DDk.has
  rw [hl] at h8 ⊢
  clear h1 h2 h3 h4 h5 h6 hl hd
  by_cases ha : 0 ≤ a
  · have q1 : decide (0 ≤ a) = true := decide_eq_true ha
    go_enter Try.func53, Try.ntmps53
    go_wp2_with fail
    go_ret
    exact ⟨by simp [ha], rfl⟩
  · have q1 : decide (0 ≤ a) = false := decide_eq_false ha
    go_enter Try.func53, Try.ntmps53
    go_wp2_with fail
    go_ret
    exact ⟨by simp [], rfl⟩
end Go.Proofs.Ytojkifcclgecoaa.Dk
