/-
  journal.Open.
-/
import Derived.Test.YtojkifcclgecoaaJnCp
namespace Go.Proofs.Ytojkifcclgecoaa
open Go Go.RowKit Go.Shelf Go.Proofs Go.Proofs.Ytojkifcclgecoaa.Dk

/-- Bytes in blocks that are nobody's. -/
structure SlZ (who : Nat → Nat) (w : World) (A : Option Addr) (c : Nat) (b : Bs) : Prop where
  sl : SlAt w A c b
  z : 0 < b.length → ∀ a, A = some a → who a.block = 0
theorem SlZ.turn {who who' : Nat → Nat} {w w' : World} {lo hi : Nat} {A : Option Addr} {c : Nat} {b : Bs} (h : SlZ who w A c b) (ht : Turn lo hi who w who' w') (hlo : 0 < lo) : SlZ who' w' A c b := by
  by_cases hb : 0 < b.length
  · refine ⟨h.sl.keepIn fun k hin hk => ht.block k hk (by obtain ⟨a, e, rfl⟩ := hin; rw [h.z hb a e]; omega), fun _ a e => ?_⟩
    obtain ⟨g, o, e2, hc⟩ := h.sl.bytes hb
    rw [e] at e2; cases e2
    exact (ht.same _ (World.block_lt_of_cell? w (a := ⟨g, o + 0, none⟩) (hc 0 hb))).trans (h.z hb _ e)
  · obtain rfl : b = [] := List.eq_nil_of_length_eq_zero (by omega)
    exact ⟨⟨BytesAt.nil _ _, h.sl.cap, h.sl.capm, h.sl.nil⟩, fun h0 => absurd h0 hb⟩
theorem SlF.toZ {n : Nat} {who : Nat → Nat} {w w0 : World} {A : Option Addr} {c : Nat} {b : Bs} (h : SlF n w A c b) (hf : Fresh who w0) (hn : w0.heap.size ≤ n) : SlZ who w A c b := ⟨h.sl, fun _ a e => hf _ (Nat.le_trans hn (h.new a e))⟩
theorem SlZ.below {who : Nat → Nat} {w w' : World} {A : Option Addr} {c : Nat} {b : Bs} (h : SlZ who w A c b) (hb : Below w.heap.size w w') : SlZ who w' A c b := ⟨h.sl.below hb, h.z⟩
/-- Rows of bytes in blocks that are nobody's. -/
structure RowsZ (who : Nat → Nat) (w : World) (A : Option Addr) (c : Nat) (l : List BX) : Prop where
  row : BRowAt w A c l
  z : 0 < l.length → ∀ a, A = some a → who a.block = 0
  each : ∀ x ∈ l, SlZ who w x.A x.c x.b
theorem RowsZ.turn {who who' : Nat → Nat} {w w' : World} {lo hi : Nat} {A : Option Addr} {c : Nat} {l : List BX} (h : RowsZ who w A c l) (ht : Turn lo hi who w who' w') (hlo : 0 < lo) : RowsZ who' w' A c l := by
  refine ⟨⟨h.row.cap, h.row.capm, fun hn => ?_, fun x hx => ((h.each x hx).turn ht hlo).sl.bytes, h.row.caps⟩, fun hn a e => ?_, fun x hx => (h.each x hx).turn ht hlo⟩
  · obtain ⟨g, o, e, hr⟩ := h.row.row hn
    refine ⟨g, o, e, fun i x hx => ?_⟩
    have h1 := hr i x hx
    exact (World.cell?_of_block (a := ⟨g, o + i, none⟩) (ht.block g (World.block_lt_of_cell? w (a := ⟨g, o + i, none⟩) h1) (by rw [h.z hn _ e]; omega))).trans h1
  · obtain ⟨g, o, e2, hr⟩ := h.row.row hn
    rw [e] at e2; cases e2
    have h1 := hr 0 _ (List.getElem?_eq_getElem hn)
    exact (ht.same _ (World.block_lt_of_cell? w (a := ⟨g, o + 0, none⟩) h1)).trans (h.z hn _ e)
theorem RowsZ.below {who : Nat → Nat} {w w' : World} {A : Option Addr} {c : Nat} {l : List BX} (h : RowsZ who w A c l) (hb : Below w.heap.size w w') : RowsZ who w' A c l := ⟨h.row.below hb, h.z, fun x hx => (h.each x hx).below hb⟩
theorem RowsF.toZ {n : Nat} {who : Nat → Nat} {w w0 : World} {v : Value} {l : List BX} (h : RowsF n w v l) (hf : Fresh who w0) (hn : w0.heap.size ≤ n) : ∃ A c, v = .slice A l.length c ∧ RowsZ who w A c l := by
  obtain ⟨A, c, e, h1, h2⟩ := h.slice
  exact ⟨A, c, e, h1, fun _ a e => hf _ (Nat.le_trans hn (h2 a e)), fun x hx => (h.bod x hx).1.toZ hf hn⟩
/-- A new journal. -/
theorem JS.new {B : Nat} {who : Nat → Nat} {w : World} {T g n : Nat} {d : DDk} (h : DS B who w T g d n) (q : Nat) (hq : q < 2 ^ 64) :
    ∃ who2, JS B who2 (w.alloc (.cells #[.pointer (some ⟨g, 0, none⟩), .int .u64 (q : Nat)] 78)) T g w.heap.size d n q ∧ Turn (T + 26) (T + 27) who w who2 (w.alloc (.cells #[.pointer (some ⟨g, 0, none⟩), .int .u64 (q : Nat)] 78)) := by
  obtain ⟨w1, hw1⟩ : ∃ w1, w.alloc (.cells #[.pointer (some ⟨g, 0, none⟩), .int .u64 (q : Nat)] 78) = w1 := ⟨_, rfl⟩
  have hb : Below w.heap.size w w1 := by rw [← hw1]; exact (Below.refl _ _).alloc (Nat.le_refl _) _
  have hs : w1.heap.size = w.heap.size + 1 := by rw [← hw1]; simp
  have hg : w1.heap[w.heap.size]? = some (.cells #[.pointer (some ⟨g, 0, none⟩), .int .u64 (q : Nat)] 78 (0, 0)) := by rw [← hw1]; exact heap_alloc_new w _
  rw [hw1]
  have hsame : ∀ b, b < w.heap.size → (if b = w.heap.size then T + 26 else who b) = who b := fun b hb => if_neg (by omega)
  have ht : Turn (T + 26) (T + 27) who w (fun b => if b = w.heap.size then T + 26 else who b) w1 := ⟨hb.os, hb.tape, hb.output, hb.size, fun b hb1 _ => hb.block b hb1, hsame⟩
  have hf : Fresh (fun b => if b = w.heap.size then T + 26 else who b) w1 := fun b hb1 => by
    show (if b = w.heap.size then T + 26 else who b) = 0
    rw [if_neg (by omega)]
    exact h.fresh b (by omega)
  exact ⟨_, ⟨h.turn (U := T + 26) (ht.wider (Nat.le_refl _) (by omega)) hf (by omega) (.inr (Nat.le_refl _)), hg, if_pos rfl, hq⟩, ht⟩
theorem readL_le {d : DDk} {n : Nat} (h : d.fits n) (a : Int) : (d.readL a).length ≤ n := by
  unfold DDk.readL
  split
  · cases hx : d.as[a.toNat]? with
    | none => simp
    | some x =>
      have h1 := h.2.2.2 x (List.mem_of_getElem? hx)
      have h2 := x.now_length
      simp only [Option.map_some, Option.getD_some]
      omega
  · simp
theorem seqO_lt {l : List Bs} : ∀ (o : Option (Nat × Bs)), (∀ x, o = some x → x.1 < 2 ^ 64) → ∀ x, l.foldl newStep o = some x → x.1 < 2 ^ 64 := by
  induction l with
  | nil => intro o ho x hx; exact ho x hx
  | cons b l ih =>
    intro o ho x hx
    refine ih (newStep o b) (fun y hy => ?_) x hx
    cases hn : numb b with
    | none => rw [newStep_none hn] at hy; exact ho y hy
    | some z =>
      have hz := (numb_lt hn).1
      cases o with
      | none => rw [newStep_first hn] at hy; cases hy; exact hz
      | some u =>
        rw [newStep_more hn] at hy
        split at hy
        · cases hy; exact hz
        · cases hy; exact ho _ rfl
theorem openO_lt (d : DDk) : seqO (openO d) < 2 ^ 64 := by
  cases h : openO d with
  | none => show 0 < 2 ^ 64; omega
  | some x => exact seqO_lt none (fun x e => by cases e) x h

theorem OB.shape {base : Nat} {w : World} {A : Option Addr} {m c : Nat} {b : Bs} (h : OB base w (.slice A m c) b) : A = none ∨ ∃ g o, A = some ⟨g, o, none⟩ := by
  rcases h.2 with ⟨e, _⟩ | ⟨g, cap, cur, e, _⟩
  · cases e; exact .inl rfl
  · cases e; exact .inr ⟨g, 0, rfl⟩
theorem results_tmp4 {fn : Func} {t u v x : Tmp} (h : fn.results = #[.tmp t, .tmp u, .tmp v, .tmp x]) (tmps : Array Value) (P : Program) (w : World) :
    (results fn tmps).run P w = .ok (.tuple #[tmps.getD t undef, tmps.getD u undef, tmps.getD v undef, tmps.getD x undef]) w := by
  simp [results, h]
/-- What Open comes to. -/
def OpenPost (B : Nat) (who : Nat → Nat) (w : World) (T g : Nat) (d : DDk) (n : Nat) (e : Ending) (w' : World) : Prop :=
  ∃ gj A c A2 c2 rows who', e = .returned (.tuple #[.pointer (some ⟨gj, 0, none⟩), .slice A (staO (openO d)).length c, .slice A2 rows.length c2, .int .i64 0]) ∧ JS B who' w' T g gj (openD d) (n + 1) (seqO (openO d)) ∧ Turn T (T + 27) who w who' w' ∧ SlZ who' w' A c (staO (openO d)) ∧
    RowsZ who' w' A2 c2 rows ∧ rows.map BX.b = openR d ∧ (lenR (openR d) = (d.readL 2).length → Below w.heap.size w w')
set_option maxRecDepth 100000 in
set_option maxHeartbeats 8000000 in
theorem open_any (B : Nat) (who : Nat → Nat) (w : World) (T g : Nat) (d : DDk) (n : Nat) (h : DS B who w T g d n) (hT : 0 < T) (hn : n + 1 ≤ 100000) (hd : d.dead = false) (hE : openE d = 0) :
    Calls Try.prog 12 #[.pointer (some ⟨g, 0, none⟩)] w (OpenPost B who w T g d n) := by
  have HD := Lib.hid h
  have HDE := Lib.hid h.dead
  rw [hd] at HDE
  have HR := Lib.hid (fun (W : World) (hW : Below w.heap.size w W) (a : Int) => (h.below hW).read (by omega) a)
  have r0 := readL_le h.fits 0
  have r1 := readL_le h.fits 1
  have r2 := readL_le h.fits 2
  clear h
  go_enter Try.func12, Try.ntmps12
  go_wp2_with fail
  refine HDE.out.mono ?_
  rintro e wx ⟨rfl, hw⟩
  have hw := hw.symm
  subst hw
  go_wp2_with fail
  refine (HR.out w (Below.refl _ _) 0).mono ?_
  rintro e w1 ⟨v0, rfl, ho0, hb1⟩
  obtain ⟨A0, c0, rfl, hs0, _⟩ := (dk_ob ho0).sl
  have HS0 := Lib.hid hs0
  have HB1 := Lib.hid hb1
  clear ho0 hs0 hb1
  go_wp2_with fail
  refine (HR.out w1 HB1.out 1).mono ?_
  rintro e w2 ⟨v1, rfl, ho1, hb2⟩
  obtain ⟨A1, c1, rfl, hs1, _⟩ := (dk_ob ho1).sl
  have hrow := brow2 (x := ⟨A0, c0, d.readL 0⟩) (y := ⟨A1, c1, d.readL 1⟩) (t := 29) (HS0.out.below hb2) hs1 (by unfold reachBytes; show (d.readL 0).length ≤ _; omega) (by unfold reachBytes; show (d.readL 1).length ≤ _; omega) rfl
  have HNW := Lib.hid (newest_any _ _ _ _ hrow (fun u hu => by
    simp only [List.mem_cons, List.mem_nil_iff, or_false] at hu
    rcases hu with rfl | rfl
    · exact (HS0.out.below hb2).nil
    · exact hs1.nil) (fun u hu => by
    simp only [List.mem_cons, List.mem_nil_iff, or_false] at hu
    rcases hu with rfl | rfl
    · show (d.readL 0).length ≤ _; omega
    · show (d.readL 1).length ≤ _; omega) (by show 2 ≤ 100; omega))
  have HB2 := Lib.hid (HB1.out.trans (hb2.mono HB1.out.size))
  obtain ⟨l0, hl0⟩ : ∃ l0, (d.readL 0).length = l0 := ⟨_, rfl⟩
  obtain ⟨l1, hl1⟩ : ∃ l1, (d.readL 1).length = l1 := ⟨_, rfl⟩
  have hx0 : BX.v ⟨A0, c0, d.readL 0⟩ = .slice A0 l0 c0 := by unfold BX.v; rw [hl0]
  have hx1 : BX.v ⟨A1, c1, d.readL 1⟩ = .slice A1 l1 c1 := by unfold BX.v; rw [hl1]
  rw [hx0, hx1] at HNW
  rw [hl0, hl1]
  clear hrow ho1 hs1 hb2 hx0 hx1 hl0 hl1 HS0
  go_wp2_with fail
  refine HNW.out.mono ?_
  rintro e w3 ⟨As, cs, rfl, hsf, hb3⟩
  have hb3 := ((Below.refl _ w2).alloc (Nat.le_refl _) (.cells #[.slice A0 l0 c0, .slice A1 l1 c1] 29)).trans (hb3.mono (by simp))
  have HB3 := Lib.hid (HB2.out.trans (hb3.mono HB2.out.size))
  have HSF := Lib.hid (hsf.mono (m := w.heap.size) (by have := HB2.out.size; simp; omega))
  have hO : newL (List.map BX.b [⟨A0, c0, d.readL 0⟩, ⟨A1, c1, d.readL 1⟩]) = openO d := rfl
  rw [hO] at HSF ⊢
  obtain ⟨sq, hsq⟩ : ∃ sq, seqO (openO d) = sq := ⟨_, rfl⟩
  obtain ⟨sl, hsl⟩ : ∃ sl, (staO (openO d)).length = sl := ⟨_, rfl⟩
  have hsq64 := openO_lt d
  rw [hsq, hsl]
  rw [hsq] at hsq64
  clear hsf hb3 hO HNW
  go_wp2_with fail
  refine (HR.out w3 HB3.out 2).mono ?_
  rintro e w4 ⟨v2, rfl, ho2, hb4⟩
  obtain ⟨A2, c2, rfl, hs2, _⟩ := (dk_ob ho2).sl
  have hsh := (dk_ob ho2).shape
  have HRC := Lib.hid (records_any A2 c2 (d.readL 2) sq w4 hs2 hsh (by omega))
  have HB4 := Lib.hid (HB3.out.trans (hb4.mono HB3.out.size))
  have HSF4 := Lib.hid (HSF.out.below hb4)
  obtain ⟨L, hL⟩ : ∃ L, (d.readL 2).length = L := ⟨_, rfl⟩
  rw [hL] at HRC ⊢
  clear ho2 hs2 hsh hb4
  go_wp2_with fail
  refine HRC.out.mono ?_
  rintro e w5 ⟨vr, rows, rfl, hrf, hrm, hb5⟩
  have HB5 := Lib.hid (HB4.out.trans (hb5.mono HB4.out.size))
  have HSF5 := Lib.hid (HSF4.out.below hb5)
  have hRR : recL sq (d.readL 2) = openR d := by unfold openR; rw [hsq]
  rw [hRR] at hrm ⊢
  obtain ⟨Ar, cr, rfl, hrz⟩ := hrf.toZ HD.out.fresh HB4.out.size
  obtain ⟨R, hR⟩ : ∃ R, lenR (openR d) = R := ⟨_, rfl⟩
  have hRL : R ≤ L := by rw [← hR, ← hL, ← hRR]; exact lenR_le _ _
  rw [hR]
  have hd5 := HD.out.below HB5.out
  obtain ⟨who2, hj6, ht6⟩ := JS.new hd5 sq hsq64
  have b6 : Below w5.heap.size w5 (w5.alloc (.cells #[.pointer (some ⟨g, 0, none⟩), .int .u64 (sq : Nat)] 78)) := (Below.refl _ _).alloc (Nat.le_refl _) _
  have hrz6 := hrz.turn ht6 (by omega)
  have hst6 := (HSF5.out.toZ HD.out.fresh (Nat.le_refl _)).turn ht6 (by omega)
  have HRZ := Lib.hid hrz6
  have HST := Lib.hid hst6
  have HJ6 := Lib.hid hj6
  have HT6 := Lib.hid ((Turn.below HB5.out).trans (ht6.wider (show T ≤ T + 26 by omega) (Nat.le_refl _)))
  have HB6 := Lib.hid (HB5.out.trans (b6.mono HB5.out.size))
  have HRM := Lib.hid hrm
  have HOE := Lib.hid hE
  have HSQ := Lib.hid hsq
  have HSL := Lib.hid hsl
  have HRV := Lib.hid hR
  have HLV := Lib.hid hL
  have HLE := Lib.hid (leave_any (R : Int) hj6 hT (by omega))
  clear hrf hb5 hrm hRR hR hL hd5 hj6 ht6 b6 hrz hrz6 hst6 hsq hsl hE HSF HSF4 HSF5 HRC HR HDE HB1 HB2 HB3 HB4
  by_cases hc : R = L
  · have q1 : ((R : Int) < (L : Int)) = False := eq_false (by omega)
    go_wp2_with fail
    refine bodyPost_ret (results_tmp4 rfl _ _ _) rfl ?_
    have hcl : lenR (openR d) = (d.readL 2).length := by rw [HRV.out, HLV.out, hc]
    have hod : openD d = d := by unfold openD; rw [if_neg (by rw [hd]; decide), if_neg (by omega)]
    refine ⟨w5.heap.size, As, cs, Ar, cr, rows, who2, by rw [HSL.out]; rfl, by rw [hod, HSQ.out]; exact HJ6.out.mono (by omega), HT6.out, HST.out, HRZ.out, HRM.out, fun _ => HB6.out⟩
  · have q1 : ((R : Int) < (L : Int)) = True := eq_true (by omega)
    have hcl : lenR (openR d) < (d.readL 2).length := by rw [HRV.out, HLV.out]; omega
    have hod : openD d = leaveD d (R : Int) := by unfold openD; rw [if_neg (by rw [hd]; decide), if_pos hcl, HRV.out]
    have hoe : leaveE d (R : Int) = 0 := by
      have := HOE.out
      unfold openE at this
      rw [if_neg (by rw [hd]; decide), if_pos hcl, HRV.out] at this
      exact this
    rw [hoe] at HLE
    have HCL := Lib.hid hcl
    have HOD := Lib.hid hod
    clear hcl hod hoe
    go_wp2_with fail
    refine HLE.out.mono ?_
    rintro e w7 ⟨rfl, who7, hj7, ht7⟩
    have HJ7 := Lib.hid hj7
    have HRZ7 := Lib.hid (HRZ.out.turn ht7 hT)
    have HST7 := Lib.hid (HST.out.turn ht7 hT)
    have HT7 := Lib.hid (HT6.out.trans ht7)
    clear hj7 ht7 HLE
    go_wp2_with fail
    refine bodyPost_ret (results_tmp4 rfl _ _ _) rfl ?_
    exact ⟨w5.heap.size, As, cs, Ar, cr, rows, who7, by rw [HSL.out]; rfl, by rw [HOD.out, HSQ.out]; exact HJ7.out, HT7.out, HST7.out, HRZ7.out, HRM.out, fun h => absurd h (by have := HCL.out; omega)⟩
end Go.Proofs.Ytojkifcclgecoaa
