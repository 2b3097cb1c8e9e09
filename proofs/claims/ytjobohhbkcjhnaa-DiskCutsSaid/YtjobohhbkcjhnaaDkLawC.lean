/-
  The law DiskCuts, walked.
-/
import Derived.Test.YtjobohhbkcjhnaaDkSide
import Derived.Test.YtjobohhbkcjhnaaDkCopy2
namespace Go.Proofs.Ytjobohhbkcjhnaa
open Go Go.RowKit Go.Shelf Go.Proofs

/-- Three areas; the first has lasting bytes, the second lasting bytes and something pending. -/
def dC (O S : Bs) (p q : List DSt) : DDk := ⟨[⟨O, q⟩, ⟨S, p⟩, ⟨[], []⟩], 5000, none, false⟩
def other : Bs := [111, 116, 104, 101, 114]
theorem dC_steps (a b : Bs) (k : Nat) (hab : a.length + b.length ≤ 600) (hk : k ≤ a.length) :
    (appendE (DDk.new 3 5000) 0 other = 0 ∧ appendD (DDk.new 3 5000) 0 other = dC [] [] [] (other.map .byte)) ∧
    (syncE (dC [] [] [] (other.map .byte)) 0 = 0 ∧ syncD (dC [] [] [] (other.map .byte)) 0 = dC other [] [] []) ∧
    (appendE (dC other [] [] []) 1 a = 0 ∧ appendD (dC other [] [] []) 1 a = dC other [] (a.map .byte) []) ∧
    (syncE (dC other [] (a.map .byte) []) 1 = 0 ∧ syncD (dC other [] (a.map .byte) []) 1 = dC other a [] []) ∧
    (cutE (dC other a [] []) 1 k = 0 ∧ cutD (dC other a [] []) 1 k = dC other a [.cut k] []) ∧
    (appendE (dC other a [.cut k] []) 1 b = 0 ∧ appendD (dC other a [.cut k] []) 1 b = dC other a (.cut k :: b.map .byte) []) ∧
    ((dC other a (.cut k :: b.map .byte) []).readL 1 = a.take k ++ b) ∧
    ((dC other a (.cut k :: b.map .byte) []).restart 0 = dC other a [] []) ∧
    (syncE (dC other a (.cut k :: b.map .byte) []) 1 = 0 ∧ syncD (dC other a (.cut k :: b.map .byte) []) 1 = dC other (a.take k ++ b) [] []) := by
  have c : ∀ O S p q, (dC O S p q).calm := fun _ _ _ _ => ⟨rfl, rfl⟩
  have hlen : ∀ O S p q, 1 < (dC O S p q).as.length ∧ 0 < (dC O S p q).as.length := fun _ _ _ _ => ⟨by show 1 < 3; omega, by show 0 < 3; omega⟩
  have r1 : (dC other a (.cut k :: b.map .byte) []).readL 1 = a.take k ++ b := by
    refine (readL_at (d := dC other a (.cut k :: b.map .byte) []) (i := 1) rfl).trans ?_
    show runS (a.take k) (b.map .byte) = _
    exact runS_bytes _ _
  refine ⟨?_, ?_, ?_, ?_, ?_, ?_, r1, ?_, ?_⟩
  · obtain ⟨h1, h2⟩ := calm_append (d := DDk.new 3 5000) ⟨rfl, rfl⟩ (i := 0) (by show 0 < 3; omega) (b := other) (by rw [new_used]; show 0 + 5 ≤ 5000; omega)
    exact ⟨h1, h2.trans rfl⟩
  · obtain ⟨h1, h2⟩ := calm_sync (c [] [] [] (other.map .byte)) (i := 0) (hlen _ _ _ _).2
    exact ⟨h1, h2.trans rfl⟩
  · obtain ⟨h1, h2⟩ := calm_append (c other [] [] []) (i := 1) (hlen _ _ _ _).1 (b := a) (by show 5 + (0 + (0 + 0)) + a.length ≤ 5000; omega)
    exact ⟨h1, h2.trans rfl⟩
  · obtain ⟨h1, h2⟩ := calm_sync (c other [] (a.map .byte) []) (i := 1) (hlen _ _ _ _).1
    refine ⟨h1, h2.trans ?_⟩
    show dC other (runS [] (a.map .byte)) [] [] = _
    rw [runS_bytes, List.nil_append]
  · have hr : (dC other a [] []).readL 1 = a := readL_at (d := dC other a [] []) (i := 1) rfl
    obtain ⟨h1, h2⟩ := calm_cut (c other a [] []) (i := 1) (k := k) (hlen _ _ _ _).1 (by have : ((dC other a [] []).readL ((1 : Nat) : Int)) = a := hr; rw [this]; exact hk)
    exact ⟨h1, h2.trans rfl⟩
  · obtain ⟨h1, h2⟩ := calm_append (c other a [.cut k] []) (i := 1) (hlen _ _ _ _).1 (b := b) (by show 5 + ((a.take k).length + (0 + 0)) + b.length ≤ 5000; rw [List.length_take]; omega)
    exact ⟨h1, h2.trans rfl⟩
  · rfl
  · obtain ⟨h1, h2⟩ := calm_sync (c other a (.cut k :: b.map .byte) []) (i := 1) (hlen _ _ _ _).1
    refine ⟨h1, h2.trans ?_⟩
    show dC other (runS (a.take k) (b.map .byte)) [] [] = _
    rw [runS_bytes]
theorem dC_rest (S : Bs) : (dC other S [] []).restart 0 = dC other S [] [] ∧ (dC other S [] []).readL 1 = S ∧ (dC other S [] []).readL 0 = other :=
  ⟨rfl, readL_at (d := dC other S [] []) (i := 1) rfl, readL_at (d := dC other S [] []) (i := 0) rfl⟩

theorem DS.readT {B : Nat} {who : Nat → Nat} {w : World} {T g n : Nat} {d : DDk} (h : DS B who w T g d n) (hn : n ≤ 1000000) (a : Int) {P : Bs} {m : Nat} (hP : d.readL a = P) (hm : P.length = m) :
    Calls Try.prog 20 #[.pointer (some ⟨g, 0, none⟩), .int .i64 a] w fun e w' => ∃ A c, e = .returned (.slice A m c) ∧ SlAt w' A c P ∧ Below w.heap.size w w' ∧ (0 < P.length → ∀ q o, A = some ⟨q, o, none⟩ → who q = 0) := by
  refine (h.read hn a).mono ?_
  rintro e w' ⟨v, rfl, ho, hb⟩
  rw [hP] at ho
  obtain ⟨A, c, rfl, hs, hbl⟩ := OB.sl ho
  rw [hm]
  exact ⟨A, c, rfl, hs, hb, fun _ q o e => h.fresh q (row_blk ho (hbl q o none e)).1⟩
theorem same_eqC (P : Bs) (A B : Option Addr) (c d m : Nat) (w : World) (ha : BytesAt w A P) (hb : BytesAt w B P) (hm : P.length = m) : Calls Try.prog 19 #[.slice A m c, .slice B m d] w fun e w' => e = .returned (.bool true) ∧ Below w.heap.size w w' := by
  have := frsame_any P P A B c d m m w ha hb hm hm
  rw [show (P == P) = true by simp] at this
  exact this
/-- A disk, its copy, and bytes that the law gathered. -/
def Trio (w0 : World) (g N : Nat) (d c : DDk) (n : Nat) (v : Value) (W : Bs) (w : World) : Prop :=
  ∃ who, DS w0.heap.size who w 1 g d n ∧ DS w0.heap.size who w 101 N c n ∧ Turn 1 300 (fun _ => 0) w0 who w ∧ OB w0.heap.size w v W ∧ ∀ q, v.ownBlock = some q → who q = 200
theorem Trio.start {w0 w w' : World} {g N n : Nat} {d : DDk} {v : Value} {W : Bs} {who : Nat → Nat} (h1 : DS w0.heap.size who w 1 g d n) (h2 : Turn 1 300 (fun _ => 0) w0 who w) (h3 : OB w0.heap.size w v W) (h4 : ∀ q, v.ownBlock = some q → who q = 200) (h : TwoW w0.heap.size who w 101 N d n w') : Trio w0 g N d d n v W w' := by
  obtain ⟨who', k1, k2, k3⟩ := h
  exact ⟨who', ⟨h1.at_.keep h1.fits fun b hb _ => ⟨k2.block b hb, k3 b hb⟩, h1.fits, k1.fresh, k1.le⟩, k1, h2.trans ⟨k2.os, k2.tape, k2.output, k2.size, fun b hb _ => k2.block b hb, k3⟩, row_keep h3 fun q _ hl => k2.block q hl, fun q e => (k3 q (row_blk h3 e).2.1).trans (h4 q e)⟩
theorem Trio.below {w0 w w' : World} {g N n : Nat} {d c : DDk} {v : Value} {W : Bs} (h : Trio w0 g N d c n v W w) (hb : Below w.heap.size w w') : Trio w0 g N d c n v W w' := by
  obtain ⟨who, h1, h2, h3, h4, h5⟩ := h
  exact ⟨who, h1.below hb, h2.below hb, h3.trans (Turn.below hb), row_keep h4 fun q _ hl => hb.block q hl, h5⟩
/-- Bytes that nothing of the three has. -/
def Loose (w0 : World) (g N : Nat) (d c : DDk) (n : Nat) (v : Value) (W : Bs) (A : Option Addr) (k : Nat) (P : Bs) (w : World) : Prop :=
  ∃ who, DS w0.heap.size who w 1 g d n ∧ DS w0.heap.size who w 101 N c n ∧ Turn 1 300 (fun _ => 0) w0 who w ∧ OB w0.heap.size w v W ∧ (∀ q, v.ownBlock = some q → who q = 200) ∧ SlAt w A k P ∧ (0 < P.length → ∀ q o, A = some ⟨q, o, none⟩ → who q = 0)
theorem Loose.trio {w0 w : World} {g N n : Nat} {d c : DDk} {v : Value} {W : Bs} {A : Option Addr} {k : Nat} {P : Bs} (h : Loose w0 g N d c n v W A k P w) : Trio w0 g N d c n v W w := by
  obtain ⟨who, h1, h2, h3, h4, h5, _⟩ := h
  exact ⟨who, h1, h2, h3, h4, h5⟩
theorem Loose.first {w0 w w' : World} {g N n : Nat} {d' c : DDk} {v : Value} {W : Bs} {A : Option Addr} {k : Nat} {P : Bs} {who : Nat → Nat} (h2 : DS w0.heap.size who w 101 N c n) (h3 : Turn 1 300 (fun _ => 0) w0 who w) (h4 : OB w0.heap.size w v W) (h5 : ∀ q, v.ownBlock = some q → who q = 200) (h6 : SlAt w A k P) (h7 : 0 < P.length → ∀ q o, A = some ⟨q, o, none⟩ → who q = 0) (hp : DP w0.heap.size who w 1 g d' n w') : Loose w0 g N d' c n v W A k P w' := by
  obtain ⟨who', k1, k2⟩ := hp
  refine ⟨who', k1, h2.turn k2 k1.fresh (by omega) (.inl (by omega)), h3.trans (k2.wider (by omega) (by omega)), row_keep h4 fun q e hl => k2.block q hl (by rw [h5 q e]; omega), fun q e => (k2.same q (row_blk h4 e).2.1).trans (h5 q e), ⟨k2.bytes (by omega) h6.bytes h7, h6.cap, h6.capm, h6.nil⟩, fun hn q o e => ?_⟩
  obtain ⟨q', o', e', hl⟩ := h6.bytes.lt hn
  rw [e] at e'
  cases e'
  exact (k2.same q hl).trans (h7 hn q o e)
section
variable {w0 w : World} {g N n : Nat} {d c : DDk} {v : Value} {W : Bs}
theorem Trio.restartC (h : Trio w0 g N d c n v W w) (hn : n ≤ 1000000) :
    Calls Try.prog 26 #[.pointer (some ⟨N, 0, none⟩), .int .i64 0] w fun e w' => e = .returned (.tuple #[]) ∧ Trio w0 g N d (c.restart 0) n v W w' := by
  obtain ⟨who, h1, h2, h3, h4, h5⟩ := h
  refine (h2.restart (by omega) hn 0 (by omega)).mono ?_
  rintro e w' ⟨rfl, who', k1, k2⟩
  exact ⟨rfl, who', h1.turn k2 k1.fresh (by omega) (.inr (by omega)), k1, h3.trans (k2.wider (by omega) (by omega)), row_keep h4 fun q e hl => k2.block q hl (by rw [h5 q e]; omega), fun q e => (k2.same q (row_blk h4 e).2.1).trans (h5 q e)⟩
theorem Trio.readD (h : Trio w0 g N d c n v W w) (hn : n ≤ 1000000) (a : Int) {P : Bs} {m : Nat} (hP : d.readL a = P) (hm : P.length = m) :
    Calls Try.prog 20 #[.pointer (some ⟨g, 0, none⟩), .int .i64 a] w fun e w' => ∃ A k, e = .returned (.slice A m k) ∧ Loose w0 g N d c n v W A k P w' := by
  have hT := h
  obtain ⟨who, h1, h2, h3, h4, h5⟩ := h
  refine (h1.readT hn a hP hm).mono ?_
  rintro e w' ⟨A, k, rfl, hs, hb, hw⟩
  exact ⟨A, k, rfl, who, h1.below hb, h2.below hb, h3.trans (Turn.below hb), row_keep h4 fun q _ hl => hb.block q hl, h5, hs, hw⟩
theorem Trio.readC (h : Trio w0 g N d c n v W w) (hn : n ≤ 1000000) (a : Int) {P : Bs} {m : Nat} (hP : c.readL a = P) (hm : P.length = m) :
    Calls Try.prog 20 #[.pointer (some ⟨N, 0, none⟩), .int .i64 a] w fun e w' => ∃ A k, e = .returned (.slice A m k) ∧ SlAt w' A k P ∧ Below w.heap.size w w' := by
  obtain ⟨who, h1, h2, h3, h4, h5⟩ := h
  refine (h2.readT hn a hP hm).mono ?_
  rintro e w' ⟨A, k, rfl, hs, hb, _⟩
  exact ⟨A, k, rfl, hs, hb⟩
variable {A : Option Addr} {k : Nat} {P : Bs}
theorem Loose.sync (h : Loose w0 g N d c n v W A k P w) (hn : n ≤ 1000000) (a : Int) :
    Calls Try.prog 25 #[.pointer (some ⟨g, 0, none⟩), .int .i64 a] w fun e w' => e = .returned (.int .i64 (syncE d a : Nat)) ∧ Loose w0 g N (syncD d a) c n v W A k P w' := by
  obtain ⟨who, h1, h2, h3, h4, h5, h6, h7⟩ := h
  exact (h1.sync (by omega) hn a).mono fun _ _ ⟨e, hp⟩ => ⟨e, Loose.first h2 h3 h4 h5 h6 h7 hp⟩
theorem Loose.restart (h : Loose w0 g N d c n v W A k P w) (hn : n ≤ 1000000) :
    Calls Try.prog 26 #[.pointer (some ⟨g, 0, none⟩), .int .i64 0] w fun e w' => e = .returned (.tuple #[]) ∧ Loose w0 g N (d.restart 0) c n v W A k P w' := by
  obtain ⟨who, h1, h2, h3, h4, h5, h6, h7⟩ := h
  exact (h1.restart (by omega) hn 0 (by omega)).mono fun _ _ ⟨e, hp⟩ => ⟨e, Loose.first h2 h3 h4 h5 h6 h7 hp⟩
theorem Loose.sl (h : Loose w0 g N d c n v W A k P w) : SlAt w A k P := by
  obtain ⟨_, _, _, _, _, _, h6, _⟩ := h
  exact h6
theorem Trio.vsl (h : Trio w0 g N d c n v W w) : ∃ A k, v = .slice A W.length k ∧ SlAt w A k W := by
  obtain ⟨_, _, _, _, h4, _⟩ := h
  obtain ⟨A, k, e, hs, _⟩ := OB.sl h4
  exact ⟨A, k, e, hs⟩
theorem Trio.base (h : Trio w0 g N d c n v W w) : Below w0.heap.size w0 w := by
  obtain ⟨_, _, _, h3, _⟩ := h
  exact h3.zero (by omega)
end
theorem sl_five (w : World) (fr : Nat × Nat) : SlAt (w.alloc (.cells #[.int .u8 111, .int .u8 116, .int .u8 104, .int .u8 101, .int .u8 114] 5 fr)) (some ⟨w.heap.size, 0, none⟩) 5 other := ⟨BytesAt.of_cells fun i z hx => by
    have hi : i < 5 := (List.getElem?_eq_some_iff.1 hx).1
    have bV := heap_alloc_new w (.cells #[.int .u8 111, .int .u8 116, .int .u8 104, .int .u8 101, .int .u8 114] 5 fr)
    simp only [World.cell?, bV, Option.isSome_none, Nat.zero_add]
    match i, hi, hx with
    | 0, _, hx => cases hx; rfl
    | 1, _, hx => cases hx; rfl
    | 2, _, hx => cases hx; rfl
    | 3, _, hx => cases hx; rfl
    | 4, _, hx => cases hx; rfl, Nat.le_refl 5, by unfold maxLen; omega, fun e => by cases e⟩

set_option maxRecDepth 100000 in
set_option maxHeartbeats 32000000 in
theorem diskcuts_any (A0 A2 : Option Addr) (c0 c2 : Nat) (a b : Bs) (s : UInt8) (w : World) (hs0 : SlAt w A0 c0 a) (hs2 : SlAt w A2 c2 b) (ha : a.length ≤ 281474976710656) (hb : b.length ≤ 281474976710656) :
    Calls Try.prog 7 #[.slice A0 a.length c0, .int .u8 (s.toNat : Int), .slice A2 b.length c2] w fun e w' => e = .returned (.bool true) ∧ Below w.heap.size w w' := by
  by_cases hl : a.length + b.length ≤ 600
  · have q0 : ((600 : Int) < (a.length : Int) + (b.length : Int)) = False := eq_false (by omega)
    obtain ⟨k, hk⟩ : ∃ k, s.toNat % (a.length + 1) = k := ⟨_, rfl⟩
    have hka : k ≤ a.length := by have := Nat.mod_lt s.toNat (show 0 < a.length + 1 by omega); omega
    obtain ⟨⟨f1, g1⟩, ⟨f2, g2⟩, ⟨f3, g3⟩, ⟨f4, g4⟩, ⟨f5, g5⟩, ⟨f6, g6⟩, g7, g8, ⟨f9, g9⟩⟩ := dC_steps a b k hl hka
    obtain ⟨m, hm⟩ : ∃ m, a.length = m := ⟨_, rfl⟩
    obtain ⟨r, hr⟩ : ∃ r, b.length = r := ⟨_, rfl⟩
    have hcap := hs0.cap
    have hc63 := hs0.c63
    rw [hm] at q0 hk hka hcap hl
    rw [hr] at q0 hl
    rw [hm, hr]
    have hsb := s.toNat_lt
    have hkk : (s.toNat : Int) % ((m : Int) + 1) = (k : Int) := by rw [← hk]; simp
    have hkn : (m : Int) + 1 = ((m + 1 : Nat) : Int) := by omega
    have HK := Lib.hid hk
    have kc := fun (w : World) (C : Array Value) (n c : Nat) => Lib.run_convert_bytes_const (P := Try.prog) w 32 5 C n c Try.underlying32 Try.underlying5
    have HN := Lib.hid (new_ds w 3 5000)
    have HS0 := Lib.hid hs0
    have HS2 := Lib.hid hs2
    have HM := Lib.hid hm
    have HR := Lib.hid hr
    have G1 := Lib.hid g1; have G2 := Lib.hid g2; have G3 := Lib.hid g3; have G4 := Lib.hid g4; have G5 := Lib.hid g5; have G6 := Lib.hid g6; have G7 := Lib.hid g7; have G8 := Lib.hid g8; have G9 := Lib.hid g9
    have F1 := Lib.hid f1; have F2 := Lib.hid f2; have F3 := Lib.hid f3; have F4 := Lib.hid f4; have F5 := Lib.hid f5; have F6 := Lib.hid f6; have F9 := Lib.hid f9
    have hn0 : (0 : Int) ≤ (s.toNat : Int) := by omega
    generalize hsn : s.toNat = sn at *
    clear hs0 hs2 hm hr hk f1 f2 f3 f4 f5 f6 f9 g1 g2 g3 g4 g5 g6 g7 g8 g9 ha hb hkn hsn
    go_enter Try.func7, Try.ntmps7
    go_wp2_with fail
    refine HN.out.mono ?_
    rintro e w1 ⟨g, rfl, who1, hD1, ht1⟩
    have k1 := kc w1 #[.int .u8 111, .int .u8 116, .int .u8 104, .int .u8 101, .int .u8 114] 5 5
    have b1 : Below w1.heap.size w1 (w1.alloc (.cells #[.int .u8 111, .int .u8 116, .int .u8 104, .int .u8 101, .int .u8 114] 5 (5, 6))) := (Below.refl _ _).alloc (Nat.le_refl _) _
    have HA := Lib.hid (fun (fr : Nat × Nat) => (hD1.below ((Below.refl _ _).alloc (Nat.le_refl _) (.cells #[.int .u8 111, .int .u8 116, .int .u8 104, .int .u8 101, .int .u8 114] 5 fr))).append (by omega) (by omega) 0 (sl_five w1 fr) rfl (by decide) (fun _ q o e => (by cases e; exact hD1.fresh _ (Nat.le_refl _))))
    have HT := Lib.hid (fun (fr : Nat × Nat) => ht1.trans (Turn.below (w' := w1.alloc (.cells #[.int .u8 111, .int .u8 116, .int .u8 104, .int .u8 101, .int .u8 114] 5 fr)) ((Below.refl _ _).alloc (Nat.le_refl _) _)))
    clear hD1 ht1 b1
    go_wp2_with fail
    refine (HA.out (5, 6)).mono ?_
    rintro e w2 ⟨rfl, who2, hD2, ht2⟩
    rw [G1.out] at hD2
    rw [F1.out]
    have HB := Lib.hid (hD2.sync (by omega) (by decide) 0)
    rw [F2.out, G2.out] at HB
    have HT2 := Lib.hid ((HT.out (5, 6)).trans ht2)
    clear hD2 ht2 HA HT
    go_wp2_with fail
    refine HB.out.mono ?_
    rintro e w3 ⟨rfl, who3, hD3, ht3⟩
    have HT3 := Lib.hid (HT2.out.trans ht3)
    have HC := Lib.hid (hD3.append (by omega) (by decide) 1 (HS0.out.below (HT3.out.zero (by omega))) HM.out (by omega) (HS0.out.who HT3.out))
    rw [F3.out, G3.out, HM.out] at HC
    clear hD3 ht3 HB HT2
    go_wp2_with fail
    refine HC.out.mono ?_
    rintro e w4 ⟨rfl, who4, hD4, ht4⟩
    have HT4 := Lib.hid (HT3.out.trans ht4)
    have hD4 := hD4.mono (m := 605) (by show 0 + 5 + m ≤ 605; omega)
    have HD := Lib.hid (hD4.sync (by omega) (by omega) 1)
    rw [F4.out, G4.out] at HD
    clear hD4 ht4 HC HT3
    go_wp2_with fail
    refine HD.out.mono ?_
    rintro e w5 ⟨rfl, who5, hD5, ht5⟩
    have HT5 := Lib.hid (HT4.out.trans ht5)
    have HE := Lib.hid (hD5.cut (by omega) (by omega) 1 (k : Int))
    rw [F5.out, G5.out] at HE
    clear hD5 ht5 HD HT4
    go_wp2_with fail
    refine HE.out.mono ?_
    rintro e w6 ⟨rfl, who6, hD6, ht6⟩
    have HT6 := Lib.hid (HT5.out.trans ht6)
    have HF := Lib.hid (hD6.append (by omega) (by omega) 1 (HS2.out.below (HT6.out.zero (by omega))) HR.out (by omega) (HS2.out.who HT6.out))
    rw [F6.out, G6.out, HR.out] at HF
    clear hD6 ht6 HE HT5
    go_wp2_with fail
    refine HF.out.mono ?_
    rintro e w7 ⟨rfl, who7, hD7, ht7⟩
    have HT7 := Lib.hid (HT6.out.trans ht7)
    have hD7 := hD7.mono (m := 1300) (by omega)
    have HSI := Lib.hid (Side.first 200 hD7 HT7.out rfl)
    clear hD7 ht7 HF HT6
    have HKL := Lib.hid (show (a.take k).length = k by rw [List.length_take, HM.out]; omega)
    obtain ⟨v', w8, hr8, hS8⟩ := HSI.out.app (by omega) (by omega) ((HS0.out.below (HT7.out.zero (by omega))).take k) (by rw [HKL.out]; simp; omega)
    obtain ⟨A8, c8, hv8, _⟩ := hS8.sl
    rw [List.nil_append] at hv8 hS8
    rw [HKL.out] at hv8 hr8
    subst hv8
    obtain ⟨v'', w9, hr9, hS9⟩ := hS8.app (by omega) (by omega) (HS2.out.below hS8.size) (by rw [HKL.out, HR.out]; omega)
    obtain ⟨A9, c9, hv9, _⟩ := hS9.sl
    obtain ⟨W, hW⟩ : ∃ W, a.take k ++ b = W := ⟨_, rfl⟩
    have HWL := Lib.hid (show W.length = k + r by rw [← hW, List.length_append, HKL.out, HR.out])
    rw [hW] at hv9 hS9
    rw [HWL.out] at hv9
    rw [HR.out] at hr9
    subst hv9
    have HR8 := Lib.hid hr8
    have HR9 := Lib.hid hr9
    have HS9 := Lib.hid hS9
    have HWW := Lib.hid hW
    have hkc : (k : Int) ≤ (c0 : Int) := by omega
    have hk00 : (0 : Int) ≤ (k : Int) := by omega
    clear hr8 hr9 hS8 hS9 HSI hW
    go_wp2_with (first | (at_builtin; refine Lib.wpList_append_run _ rfl _ _ _ _ rfl _ _ rfl rfl _ _ HR8.out ?_; clear HR8) | (at_builtin; refine Lib.wpList_append_run _ rfl _ _ _ _ rfl _ _ rfl rfl _ _ HR9.out ?_; clear HR9))
    obtain ⟨whoS, hDS, hTS, hOS, htS, _⟩ := HS9.out
    have HCP := Lib.hid (copy_any w.heap.size whoS w9 1 101 g _ 1300 hDS (by omega) (by omega))
    have HST := Lib.hid (fun (N : Nat) (w' : World) (h : TwoW w.heap.size whoS w9 101 N (dC other a (.cut k :: b.map .byte) []) 1300 w') => Trio.start hDS hTS hOS htS h)
    clear hDS hTS hOS htS HS9
    refine HCP.out.mono ?_
    rintro e w10 ⟨N, rfl, htw⟩
    have h10 := HST.out N w10 htw
    have HRC := Lib.hid (h10.restartC (by omega))
    rw [G8.out] at HRC
    clear htw h10 HST HCP
    go_wp2_with fail
    refine HRC.out.mono ?_
    rintro e w11 ⟨rfl, h11⟩
    have HRD := Lib.hid (h11.readD (by omega) 1 (G7.out.trans HWW.out) HWL.out)
    clear h11 HRC
    go_wp2_with fail
    refine HRD.out.mono ?_
    rintro e w12 ⟨A12, k12, rfl, h12⟩
    have HSY := Lib.hid (h12.sync (by omega) 1)
    rw [F9.out, G9.out, HWW.out] at HSY
    clear h12 HRD
    go_wp2_with fail
    refine HSY.out.mono ?_
    rintro e w13 ⟨rfl, h13⟩
    have HRS := Lib.hid (h13.restart (by omega))
    rw [(dC_rest W).1] at HRS
    clear h13 HSY
    go_wp2_with fail
    refine HRS.out.mono ?_
    rintro e w14 ⟨rfl, h14⟩
    have H14 := Lib.hid h14
    obtain ⟨Aw, kw, ew, hsw⟩ := h14.trio.vsl
    rw [HWL.out] at ew
    cases ew
    have HSM := Lib.hid (same_eqC W A12 A9 k12 c9 (k + r) w14 h14.sl.bytes hsw.bytes HWL.out)
    clear h14 HRS hsw
    go_wp2_with fail
    refine HSM.out.mono ?_
    rintro e w15 ⟨rfl, hb15⟩
    have H15 := Lib.hid (H14.out.trio.below hb15)
    have HRC2 := Lib.hid (H15.out.readC (by omega) 1 (dC_rest a).2.1 HM.out)
    clear hb15 HSM H14
    go_wp2_with fail
    refine HRC2.out.mono ?_
    rintro e w16 ⟨A16, k16, rfl, hs16, hb16⟩
    have H16 := Lib.hid (H15.out.below hb16)
    have HSM2 := Lib.hid (same_eqC a A16 A0 k16 c0 m w16 hs16.bytes (HS0.out.below H16.out.base).bytes HM.out)
    clear hs16 hb16 HRC2 H15
    go_wp2_with fail
    refine HSM2.out.mono ?_
    rintro e w17 ⟨rfl, hb17⟩
    have H17 := Lib.hid (H16.out.below hb17)
    have HRD2 := Lib.hid (H17.out.readD (by omega) 1 (dC_rest W).2.1 HWL.out)
    clear hb17 HSM2 H16 H17
    go_wp2_with fail
    refine HRD2.out.mono ?_
    rintro e w18 ⟨A18, k18, rfl, h18⟩
    obtain ⟨Aw, kw, ew, hsw⟩ := h18.trio.vsl
    rw [HWL.out] at ew
    cases ew
    have HSM3 := Lib.hid (same_eqC W A18 A9 k18 c9 (k + r) w18 h18.sl.bytes hsw.bytes HWL.out)
    have H18 := Lib.hid h18.trio
    clear h18 hsw HRD2
    go_wp2_with fail
    refine HSM3.out.mono ?_
    rintro e w19 ⟨rfl, hb19⟩
    have H19 := Lib.hid (H18.out.below hb19)
    have HRD3 := Lib.hid (H19.out.readD (m := 5) (by omega) 0 (dC_rest W).2.2 rfl)
    clear hb19 HSM3 H18
    go_wp2_with fail
    refine HRD3.out.mono ?_
    rintro e w20 ⟨A20, k20, rfl, h20⟩
    have r20 := fr_str w20 A20 k20 other h20.sl.bytes
    have r20 : (convert 32 9 (.slice A20 5 k20)).run Try.prog w20 = .ok (.string ⟨#[111, 116, 104, 101, 114]⟩) w20 := r20
    have H20 := Lib.hid h20.trio.base
    have HKN := Lib.hid (known_any w20)
    clear h20 HRD3 H19
    go_wp2_with fail
    refine HKN.out.mono ?_
    rintro e w21 ⟨rfl, hb21⟩
    go_wp2_with fail
    go_ret
    exact ⟨rfl, H20.out.trans (hb21.mono H20.out.size)⟩
  · have q0 : ((600 : Int) < (a.length : Int) + (b.length : Int)) = True := eq_true (by omega)
    have H1 := Lib.hid (known_any w)
    clear hs0 hs2
    go_enter Try.func7, Try.ntmps7
    go_wp2_with fail
    refine H1.out.mono ?_
    rintro e w1 ⟨rfl, hb⟩
    go_wp2_with fail
    go_ret
    exact ⟨rfl, hb⟩
end Go.Proofs.Ytjobohhbkcjhnaa
