/-
  The document's own disks in memory: steps, areas, a disk; nothing of theirs is ever turned.
-/
import Derived.Test.YtojkifcclgecoaaDkSide
namespace Go.Proofs.Ytojkifcclgecoaa.Dk
open Go Go.RowKit Go.Shelf Go.Proofs

def DSt.c : DSt → Int | .byte x => (x.toNat : Int) | .cut _ => 0
def DSt.n : DSt → Int | .byte _ => -1 | .cut n => (n : Int)
/-- The slice value .slice A p.length c shows the steps p. -/
structure StepsAt (w : World) (A : Option Addr) (c : Nat) (p : List DSt) : Prop where
  cap : p.length ≤ c
  capm : c ≤ maxLen
  nil : A = none → c = 0
  row : 0 < p.length → ∃ g o, A = some ⟨g, o, Option.none⟩ ∧ ∀ i s, p[i]? = some s → w.cell? ⟨g, o + i * 2, Option.none⟩ = some (.int .u8 s.c) ∧ w.cell? ⟨g, o + i * 2 + 1, Option.none⟩ = some (.int .i64 s.n)
theorem StepsAt.below {w w' : World} {A : Option Addr} {c : Nat} {p : List DSt} (h : StepsAt w A c p) (hb : Below w.heap.size w w') : StepsAt w' A c p := by
  refine ⟨h.cap, h.capm, h.nil, fun hn => ?_⟩
  obtain ⟨g, o, e, hr⟩ := h.row hn
  refine ⟨g, o, e, fun i s hs => ?_⟩
  obtain ⟨h1, h2⟩ := hr i s hs
  exact ⟨(hb.cell (p := ⟨g, o + i * 2, none⟩) (World.block_lt_of_cell? w (a := ⟨g, o + i * 2, none⟩) h1)).trans h1, (hb.cell (p := ⟨g, o + i * 2 + 1, none⟩) (World.block_lt_of_cell? w (a := ⟨g, o + i * 2 + 1, none⟩) h2)).trans h2⟩
theorem StepsAt.none (w : World) : StepsAt w none 0 [] := ⟨Nat.le_refl _, Nat.zero_le _, fun _ => rfl, fun h => absurd h (by simp)⟩
/-- An area of the document's, in memory. -/
structure RX where
  nA : Option Addr
  nc : Nat
  lA : Option Addr
  lc : Nat
  pA : Option Addr
  pc : Nat
  a : DAr
def RX.cs (x : RX) : List Value := [.slice x.nA x.a.now.length x.nc, .slice x.lA x.a.l.length x.lc, .slice x.pA x.a.p.length x.pc]
structure RX.ok (w : World) (x : RX) : Prop where
  n : SlAt w x.nA x.nc x.a.now
  l : SlAt w x.lA x.lc x.a.l
  p : StepsAt w x.pA x.pc x.a.p
theorem RX.ok.below {w w' : World} {x : RX} (h : x.ok w) (hb : Below w.heap.size w w') : x.ok w' := ⟨h.n.below hb, h.l.below hb, h.p.below hb⟩
structure RAreas (w : World) (A : Option Addr) (c : Nat) (R : List RX) : Prop where
  cap : R.length ≤ c
  capm : c ≤ maxLen
  nil : A = none → c = 0
  row : 0 < R.length → ∃ g o, A = some ⟨g, o, Option.none⟩ ∧ ∀ i x, R[i]? = some x → w.cell? ⟨g, o + i * 3, Option.none⟩ = some (.slice x.nA x.a.now.length x.nc) ∧ w.cell? ⟨g, o + i * 3 + 1, Option.none⟩ = some (.slice x.lA x.a.l.length x.lc) ∧ w.cell? ⟨g, o + i * 3 + 2, Option.none⟩ = some (.slice x.pA x.a.p.length x.pc)
  each : ∀ x ∈ R, x.ok w
theorem RAreas.below {w w' : World} {A : Option Addr} {c : Nat} {R : List RX} (h : RAreas w A c R) (hb : Below w.heap.size w w') : RAreas w' A c R := by
  refine ⟨h.cap, h.capm, h.nil, fun hn => ?_, fun x hx => (h.each x hx).below hb⟩
  obtain ⟨g, o, e, hr⟩ := h.row hn
  refine ⟨g, o, e, fun i x hx => ?_⟩
  obtain ⟨h1, h2, h3⟩ := hr i x hx
  exact ⟨(hb.cell (p := ⟨g, o + i * 3, none⟩) (World.block_lt_of_cell? w (a := ⟨g, o + i * 3, none⟩) h1)).trans h1, (hb.cell (p := ⟨g, o + i * 3 + 1, none⟩) (World.block_lt_of_cell? w (a := ⟨g, o + i * 3 + 1, none⟩) h2)).trans h2, (hb.cell (p := ⟨g, o + i * 3 + 2, none⟩) (World.block_lt_of_cell? w (a := ⟨g, o + i * 3 + 2, none⟩) h3)).trans h3⟩
/-- The cells of a disk of the document's. -/
def tcs (A : Option Addr) (n c : Nat) (room : Nat) (armed : Bool) (q : Int) (dead : Bool) : Array Value := #[.slice A n c, .int .i64 (room : Int), .bool armed, .int .i64 q, .bool dead]
/-- A disk of the document's, as a value: areas R at A, and how much power its cell tells. -/
structure RT where
  A : Option Addr
  c : Nat
  R : List RX
  q : Int
def RT.v (t : RT) (d : DDk) : Value := .agg #[.slice t.A t.R.length t.c, .int .i64 (d.room : Int), .bool d.pw.isSome, .int .i64 t.q, .bool d.dead]
structure RefAt (w : World) (t : RT) (d : DDk) : Prop where
  areas : RAreas w t.A t.c t.R
  as_ : d.as = t.R.map RX.a
  q : ∀ k, d.pw = some k → t.q = k
theorem RefAt.below {w w' : World} {t : RT} {d : DDk} (h : RefAt w t d) (hb : Below w.heap.size w w') : RefAt w' t d := ⟨h.areas.below hb, h.as_, h.q⟩
theorem RefAt.len {w : World} {t : RT} {d : DDk} (h : RefAt w t d) : d.as.length = t.R.length := by rw [h.as_, List.length_map]
theorem RefAt.at_ {w : World} {t : RT} {d : DDk} (h : RefAt w t d) {i : Nat} (hi : i < t.R.length) : ∃ x g o, t.R[i]? = some x ∧ d.as[i]? = some x.a ∧ t.A = some ⟨g, o, none⟩ ∧ w.cell? ⟨g, o + i * 3, none⟩ = some (.slice x.nA x.a.now.length x.nc) ∧ w.cell? ⟨g, o + i * 3 + 1, none⟩ = some (.slice x.lA x.a.l.length x.lc) ∧ w.cell? ⟨g, o + i * 3 + 2, none⟩ = some (.slice x.pA x.a.p.length x.pc) ∧ x.ok w := by
  obtain ⟨x, hx⟩ : ∃ x, t.R[i]? = some x := ⟨_, List.getElem?_eq_getElem hi⟩
  obtain ⟨g, o, e, hr⟩ := h.areas.row (by omega)
  obtain ⟨h1, h2, h3⟩ := hr i x hx
  exact ⟨x, g, o, hx, by rw [h.as_, List.getElem?_map, hx]; rfl, e, h1, h2, h3, h.areas.each x (List.mem_of_getElem? hx)⟩
def RP (w : World) (d : DDk) (e : Ending) (w' : World) : Prop := ∃ t, e = .returned (RT.v t d) ∧ RefAt w' t d ∧ Below w.heap.size w w'

/-- may. -/
theorem rmay_any (w : World) (t : RT) (d : DDk) (a : Int) (n : Nat) (h : RefAt w t d) (hd : d.fits n) :
    Calls Try.prog 76 #[RT.v t d, .int .i64 a] w fun e w' => e = .returned (.int .i64 (d.may a : Nat)) ∧ Below w.heap.size w w' := by
  have hl := h.len
  have h8 := hd.1
  unfold RT.v
  rw [hl] at h8
  have hm : d.may a = if decide (a < 0) = true then 2 else if decide ((t.R.length : Int) ≤ a) = true then 2 else d.state := by
    unfold DDk.may DDk.has
    rw [hl]
    by_cases h1 : a < 0
    · have h0 : ¬ 0 ≤ a := by omega
      simp [h1, h0]
    · have h0 : 0 ≤ a := by omega
      by_cases h2 : (t.R.length : Int) ≤ a
      · have h3 : ¬ a < (t.R.length : Int) := by omega
        simp [h1, h2, h3]
      · have h3 : a < (t.R.length : Int) := by omega
        simp [h1, h2, h3, h0]
  rw [hm]
  unfold DDk.state
  generalize t.R.length = N at *
  generalize d.dead = D at *
  clear h hl hm hd
  by_cases h1 : a < 0
  · have q1 : decide (a < 0) = true := decide_eq_true h1
    rw [if_pos q1]
    go_enter Try.func76, Try.ntmps76
    go_wp2_with fail
    go_ret
    exact ⟨rfl, (Below.refl _ _).alloc (Nat.le_refl _) _⟩
  · have q1 : decide (a < 0) = false := decide_eq_false h1
    rw [if_neg (by rw [q1]; decide)]
    by_cases h2 : (N : Int) ≤ a
    · have q2 : decide ((N : Int) ≤ a) = true := decide_eq_true h2
      rw [if_pos q2]
      go_enter Try.func76, Try.ntmps76
      go_wp2_with fail
      go_ret
      exact ⟨rfl, (Below.refl _ _).alloc (Nat.le_refl _) _⟩
    · have q2 : decide ((N : Int) ≤ a) = false := decide_eq_false h2
      rw [if_neg (by rw [q2]; decide)]
      cases D with
      | true =>
        go_enter Try.func76, Try.ntmps76
        go_wp2_with fail
        go_ret
        exact ⟨rfl, (Below.refl _ _).alloc (Nat.le_refl _) _⟩
      | false =>
        go_enter Try.func76, Try.ntmps76
        go_wp2_with fail
        go_ret
        exact ⟨rfl, (Below.refl _ _).alloc (Nat.le_refl _) _⟩

set_option maxHeartbeats 4000000 in
theorem rused_any (w : World) (t : RT) (d : DDk) (n : Nat) (h : RefAt w t d) (hd : d.fits n) (hn : n ≤ 1000000) :
    Calls Try.prog 34 #[RT.v t d] w fun e w' => e = .returned (.int .i64 (d.used : Nat)) ∧ Below w.heap.size w w' := by
  have hl := h.len
  have h8 := hd.1
  rw [hl] at h8
  obtain ⟨V, hV⟩ : ∃ V, w.alloc (.cells #[.slice t.A t.R.length t.c, .int .i64 (d.room : Int), .bool d.pw.isSome, .int .i64 t.q, .bool d.dead] 57) = V := ⟨_, rfl⟩
  have hbV : Below w.heap.size w (w.alloc (.cells #[.slice t.A t.R.length t.c, .int .i64 (d.room : Int), .bool d.pw.isSome, .int .i64 t.q, .bool d.dead] 57)) := (Below.refl _ _).alloc (Nat.le_refl _) _
  have hz := heap_alloc_new w (.cells #[.slice t.A t.R.length t.c, .int .i64 (d.room : Int), .bool d.pw.isSome, .int .i64 t.q, .bool d.dead] 57)
  rw [hV] at hbV hz
  have z0 : V.cell? ⟨w.heap.size, 0, none⟩ = some (.slice t.A t.R.length t.c) := cell_of_row V _ 0 _ _ _ hz
  have HAT := Lib.hid (fun (i : Nat) (hi : i < t.R.length) => show ∃ g o A c m, t.A = some ⟨g, o, none⟩ ∧ V.cell? ⟨g, o + i * 3, none⟩ = some (.slice A m c) ∧ usedL (d.as.take (i + 1)) = usedL (d.as.take i) + m ∧ usedL (d.as.take (i + 1)) ≤ 8 * n from by
    obtain ⟨x, g, o, hx, hax, e, c1, _⟩ := (h.below hbV).at_ hi
    exact ⟨g, o, _, _, _, e, c1, usedL_snoc hax, usedL_take_le hd.2.2.2 hd.1⟩)
  have HU := Lib.hid (show usedL (d.as.take t.R.length) = d.used by rw [← hl, List.take_length]; rfl)
  unfold RT.v
  have HB := Lib.hid hbV
  have HV := Lib.hid hV
  generalize t.R.length = N at *
  clear h hd hl hbV hz hV
  go_enter Try.func34, Try.ntmps34
  go_wp2_with fail
  rw [HV.out]
  go_loop [3, 4] (fun s y => ∃ (i : Nat), i ≤ N ∧ s = .int .i64 (usedL (d.as.take i) : Nat) ∧ y = .int .i64 i) (fun _ y => N - (intOf y).toNat)
  case atStart => exact ⟨0, Nat.zero_le _, rfl, rfl⟩
  case round =>
    obtain ⟨i, hi, rfl, rfl⟩ := hrel
    by_cases k1 : i < N
    · obtain ⟨g, o, A, c, m, e, hc, hs, hb⟩ := HAT.out i k1
      have HS := Lib.hid hs
      have hsum : usedL (d.as.take i) + m ≤ 8 * n := by omega
      rw [e] at z0
      have k2 : (i : Int) < (N : Int) := by omega
      generalize usedL (d.as.take i) = U at *
      clear hs hb e
      go_wp2_with fail
      go_round
      case rel => exact ⟨i + 1, by omega, by rw [HS.out]; go_num, by go_num⟩
      case measure => simp [intOf]; omega
    · obtain rfl : i = N := by omega
      rw [HU.out]
      go_wp2_with fail
      go_ret
      exact ⟨rfl, HB.out⟩
end Go.Proofs.Ytojkifcclgecoaa.Dk
