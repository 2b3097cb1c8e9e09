/-
  The document's own Restart.
-/
import Derived.Test.YtojkifcclgecoaaDkRefT
namespace Go.Proofs.Ytojkifcclgecoaa.Dk
open Go Go.RowKit Go.Shelf Go.Proofs

/-- What a slice stands on while it is made. -/
def StandS (n0 : Nat) (w : World) (A0 : Option Addr) (c0 : Nat) (b0 : Bs) (A : Option Addr) (c : Nat) (b : Bs) : Prop := ∀ W : World, (∀ k, n0 ≤ k → k < w.heap.size → W.heap[k]? = w.heap[k]?) → SlAt W A0 c0 b0 → SlAt W A c b
theorem StandS.more {n0 : Nat} {w w' : World} {A0 A A' : Option Addr} {c0 c c' : Nat} {b0 b b' : Bs} (h : StandS n0 w A0 c0 b0 A c b) (hn : n0 ≤ w.heap.size) (hb : Below w.heap.size w w') (hp : ∀ W : World, (∀ k, w.heap.size ≤ k → k < w'.heap.size → W.heap[k]? = w'.heap[k]?) → SlAt W A c b → SlAt W A' c' b') : StandS n0 w' A0 c0 b0 A' c' b' := fun W hW h0 =>
  hp W (fun k h1 h2 => hW k (by omega) h2) (h W (fun k h1 h2 => (hW k h1 (Nat.lt_of_lt_of_le h2 hb.size)).trans (hb.block k h2)) h0)
theorem okS_at {b : Bs} {p : List DSt} {i : Nat} {s : DSt} (h : okS b p) (hs : p[i]? = some s) : okS (runS b (p.take i)) [s] := by
  obtain ⟨hl, he⟩ := List.getElem?_eq_some_iff.1 hs
  have e : p = p.take i ++ (s :: p.drop (i + 1)) := by
    rw [← he, ← List.drop_eq_getElem_cons hl, List.take_append_drop]
  rw [e, okS_append] at h
  have h2 := h.2
  rw [show s :: p.drop (i + 1) = [s] ++ p.drop (i + 1) from rfl, okS_append] at h2
  exact h2.1
/-- A disk of which so many areas are restarted. -/
structure RstD (d d' : DDk) (k j : Nat) : Prop where
  len : d'.as.length = d.as.length
  at_ : ∀ m, d'.as[m]? = if m < j then (d.as[m]?).map (keepA k) else d.as[m]?
  room : d'.room = d.room
  pw : d'.pw = d.pw
  dead : d'.dead = d.dead
theorem RstD.zero (d : DDk) (k : Nat) : RstD d d k 0 := ⟨rfl, fun m => by rw [if_neg (by omega)], rfl, rfl, rfl⟩
theorem RstD.next {d d' : DDk} {k j : Nat} {x : DAr} (h : RstD d d' k j) (hx : d.as[j]? = some x) : RstD d (d'.setA j (keepA k x)) k (j + 1) := by
  have hj := (List.getElem?_eq_some_iff.1 hx).1
  refine ⟨by show (d'.as.set j _).length = _; rw [List.length_set]; exact h.len, fun m => ?_, h.room, h.pw, h.dead⟩
  show (d'.as.set j (keepA k x))[m]? = _
  rw [List.getElem?_set]
  by_cases e : j = m
  · subst e
    rw [if_pos rfl, if_pos (by rw [h.len]; exact hj), if_pos (by omega), hx]; rfl
  · rw [if_neg e, h.at_ m]
    by_cases hm : m < j
    · rw [if_pos hm, if_pos (by omega)]
    · rw [if_neg hm, if_neg (by omega)]
theorem RstD.end_ {d d' : DDk} {k : Nat} (h : RstD d d' k d.as.length) : d'.as = d.as.map (keepA k) := by
  apply List.ext_getElem?
  intro m
  rw [h.at_ m, List.getElem?_map]
  by_cases hm : m < d.as.length
  · rw [if_pos hm]
  · rw [if_neg hm, List.getElem?_eq_none (by omega)]; rfl
theorem setA_fits {d : DDk} {n i : Nat} {x : DAr} (h : d.fits n) (hx : x.l.length + x.p.length ≤ n) : (d.setA i x).fits n := by
  refine ⟨by show (d.as.set i x).length ≤ 8; rw [List.length_set]; exact h.1, h.2.1, h.2.2.1, fun a ha => ?_⟩
  rcases List.mem_or_eq_of_mem_set (show a ∈ d.as.set i x from ha) with ha | rfl
  · exact h.2.2.2 a ha
  · exact hx
theorem keep_fits {x : DAr} {n k : Nat} (h : x.l.length + x.p.length ≤ n) : (keepA k x).l.length + (keepA k x).p.length ≤ n := by
  show (runS x.l (x.p.take k)).length + 0 ≤ n
  have := runS_length (x.p.take k) x.l
  rw [List.length_take] at this
  omega
set_option maxRecDepth 100000 in
set_option maxHeartbeats 16000000 in
theorem rrestart_any (w : World) (t : RT) (d : DDk) (k : Int) (n : Nat) (h : RefAt w t d) (hd : d.fits n) (hn : n ≤ 100000) (hok : ∀ x ∈ d.as, okS x.l x.p) (hk : k ≤ 9223372036854775807) :
    Calls Try.prog 65 #[RT.v t d, .int .i64 k] w (RPT w t (d.restart k)) := by
  obtain ⟨TA, TC, TR, TQ⟩ := t
  obtain ⟨V1, hV1⟩ : ∃ V, w.alloc (.cells #[.slice TA TR.length TC, .int .i64 (d.room : Int), .bool d.pw.isSome, .int .i64 TQ, .bool d.dead] 57) = V := ⟨_, rfl⟩
  obtain ⟨V2, hV2⟩ : ∃ V, V1.alloc (.cells #[.slice none 0 0, .int .i64 0, .bool false, .int .i64 0, .bool false] 57) = V := ⟨_, rfl⟩
  have hb1 : Below w.heap.size w V1 := by rw [← hV1]; exact (Below.refl _ _).alloc (Nat.le_refl _) _
  have hb2 : Below V1.heap.size V1 V2 := by rw [← hV2]; exact (Below.refl _ _).alloc (Nat.le_refl _) _
  have s1 : V1.heap.size = w.heap.size + 1 := by rw [← hV1]; simp
  have s2 : V2.heap.size = w.heap.size + 2 := by rw [← hV2]; simp [s1]
  have hbV : Below w.heap.size w V2 := hb1.trans (hb2.mono (by omega))
  have z0 : V2.heap[w.heap.size]? = some (.cells #[.slice TA TR.length TC, .int .i64 (d.room : Int), .bool d.pw.isSome, .int .i64 TQ, .bool d.dead] 57 (0, 0)) := (hb2.block _ (by omega)).trans (by rw [← hV1]; exact heap_alloc_new w _)
  have z1 : V2.heap[w.heap.size + 1]? = some (.cells #[.slice none 0 0, .int .i64 0, .bool false, .int .i64 0, .bool false] 57 (0, 0)) := by rw [← s1, ← hV2]; exact heap_alloc_new V1 _
  have HV := Lib.hid (show (w.alloc (.cells #[.slice TA TR.length TC, .int .i64 (d.room : Int), .bool d.pw.isSome, .int .i64 TQ, .bool d.dead] 57)).alloc (.cells #[.slice none 0 0, .int .i64 0, .bool false, .int .i64 0, .bool false] 57) = V2 by rw [hV1, hV2])
  have HH := Lib.hid h
  have HD := Lib.hid hd
  have HOK := Lib.hid hok
  have h8 : TR.length ≤ 8 := by have h1 : d.as.length = TR.length := HH.out.len; have h2 := hd.1; omega
  unfold RT.v
  dsimp only
  have HBV := Lib.hid hbV
  have Z0 := Lib.hid z0
  have Z1 := Lib.hid z1
  have HHR := Lib.hid HH.out.areas
  clear hV1 hV2 hb1 hb2 hbV z0 z1 s1 h hd hok
  go_enter Try.func65, Try.ntmps65
  go_upto_region 1 with (fail)
  rw [HV.out]
  go_wp2_with fail
  go_loopw [5] (fun iv wr => ∃ (j : Nat) (t' : RT) (d' : DDk), j ≤ TR.length ∧ iv = .int .i64 j ∧ Hid (wr.heap[w.heap.size]? = some (.cells #[.slice t'.A t'.R.length t'.c, .int .i64 (d'.room : Int), .bool d'.pw.isSome, .int .i64 t'.q, .bool d'.dead] 57 (0, 0)) ∧ wr.heap[w.heap.size + 1]? = some (.cells #[.slice none 0 0, .int .i64 0, .bool false, .int .i64 0, .bool false] 57 (0, 0))) ∧ Hid (Below w.heap.size w wr ∧ w.heap.size + 2 ≤ wr.heap.size) ∧ Hid (Stand (w.heap.size + 2) wr ⟨TA, TC, TR, TQ⟩ t' d') ∧ Hid (RstD d d' k.toNat j) ∧ Hid (d'.fits n)) (fun iv _ => TR.length - (intOf iv).toNat)
  case atStart => exact ⟨0, ⟨TA, TC, TR, TQ⟩, d, Nat.zero_le _, rfl, (show _ ∧ _ from ⟨Z0.out, Z1.out⟩), (show _ ∧ _ from ⟨HBV.out, by omega⟩), (show Stand _ _ _ _ _ from fun W _ hR => ⟨hR, HH.out.as_, HH.out.q⟩), RstD.zero _ _, HD⟩
  case round =>
    obtain ⟨wc, hwc⟩ : ∃ wc, wc = wr := ⟨_, rfl⟩
    subst hwc
    obtain ⟨j, t', d', hj, rfl, HC, HB, HST, HRD, HF⟩ := hrel
    obtain ⟨A', C', R', Q'⟩ := t'
    have hwr := HC.out.1
    have hwz := HC.out.2
    have href : RefAt wc ⟨A', C', R', Q'⟩ d' := HST.out.here (HHR.out.below HB.out.1)
    have hrl : R'.length = TR.length := by have h1 : d'.as.length = R'.length := href.len; have h2 : d.as.length = TR.length := HH.out.len; have := HRD.out.len; omega
    dsimp only at hwr
    have c0 := cell_of_row wc w.heap.size 0 _ _ _ hwr
    have c1 := cell_of_row wc w.heap.size 1 _ _ _ hwr
    have c2 := cell_of_row wc w.heap.size 2 _ _ _ hwr
    have c3 := cell_of_row wc w.heap.size 3 _ _ _ hwr
    have c4 := cell_of_row wc w.heap.size 4 _ _ _ hwr
    by_cases k1 : j < TR.length
    · have k2 : (j : Int) < (R'.length : Int) := by omega
      obtain ⟨x, g, o, hx, hax, hA, ca, cb, cc, hxo⟩ := href.at_ (i := j) (by show j < R'.length; omega)
      have hA : A' = some ⟨g, o, none⟩ := hA
      subst hA
      dsimp only at hx
      have k3 : (j : Int) < (C' : Int) := by have := href.areas.cap; dsimp only at this; omega
      have hdx : d.as[j]? = some x.a := by have := HRD.out.at_ j; rw [if_neg (by omega)] at this; rw [← this]; exact hax
      have hfx := fits_at HD.out hdx
      have hokx := HOK.out x.a (List.mem_of_getElem? hdx)
      obtain ⟨xn, hxn⟩ : ∃ q, x.a.now.length = q := ⟨_, rfl⟩
      obtain ⟨xl, hxl⟩ : ∃ q, x.a.l.length = q := ⟨_, rfl⟩
      obtain ⟨xp, hxp⟩ : ∃ q, x.a.p.length = q := ⟨_, rfl⟩
      rw [hxn] at ca
      rw [hxl] at cb
      rw [hxp] at cc
      obtain ⟨w3, hw3⟩ : ∃ w3, wc.alloc (.cells #[.slice x.nA xn x.nc, .slice x.lA xl x.lc, .slice x.pA xp x.pc] 103) = w3 := ⟨_, rfl⟩
      have hz3 : w3.heap[wc.heap.size]? = some (.cells #[.slice x.nA xn x.nc, .slice x.lA xl x.lc, .slice x.pA xp x.pc] 103 (0, 0)) := by rw [← hw3]; exact heap_alloc_new wc _
      have hb23 : Below wc.heap.size wc w3 := by rw [← hw3]; exact (Below.refl _ _).alloc (Nat.le_refl _) _
      have hs3 : w3.heap.size = wc.heap.size + 1 := by rw [← hw3]; simp
      have HW3 := Lib.hid hw3
      have HZ3 := Lib.hid hz3
      have HB23 := Lib.hid hb23
      have HXO := Lib.hid hxo
      have HOX := Lib.hid hokx
      have HXN := Lib.hid hxn
      have HXL := Lib.hid hxl
      have HXP := Lib.hid hxp
      have HFX := Lib.hid hfx
      have HDX := Lib.hid hdx
      have HHX := Lib.hid hx
      have HREF := Lib.hid href
      have HW0 := Lib.hid hwr
      have HW1 := Lib.hid hwz
      have e1 := cell_of_row w3 _ 1 _ _ _ hz3
      have hxpb : xp ≤ n := by omega
      have hjr : j < R'.length := by omega
      clear hw3 hb23 hxo hokx hxn hxl hxp hfx hdx hx href hax hwr hwz hrl
      go_upto_region 5 with (fail)
      rw [HW3.out]
      go_wp2_with fail
      go_loopw [7, 8] (fun bv iw wr => ∃ (i : Nat) (A : Option Addr) (c : Nat) (b : Bs), i ≤ xp ∧ i ≤ k.toNat ∧ iw = .int .i64 i ∧ bv = .slice A b.length c ∧ Hid (b = runS x.a.l (x.a.p.take i)) ∧ Hid (Below w3.heap.size w3 wr) ∧ Hid (StandS w3.heap.size wr x.lA x.lc x.a.l A c b)) (fun _ iw _ => xp - (intOf iw).toNat)
      case atStart => exact ⟨0, x.lA, x.lc, x.a.l, Nat.zero_le _, Nat.zero_le _, rfl, by rw [HXL.out], (show _ = _ from rfl), Below.refl _ _, (show StandS _ _ _ _ _ _ _ _ from fun _ _ h => h)⟩
      case round =>
        obtain ⟨i, A, c, b, hi, hik, rfl, rfl, HBB, HBI, HSS⟩ := hrel
        have e2 := cell_of_row wr _ 2 _ _ _ ((HBI.out.block wc.heap.size (by omega)).trans HZ3.out)
        have hsl : SlAt wr A c b := HSS.out wr (fun _ _ _ => rfl) ((HXO.out.l.below (HB23.out.trans (HBI.out.mono HB23.out.size))))
        have hbl : b.length ≤ n := by rw [HBB.out]; have := runS_length (x.a.p.take i) x.a.l; rw [List.length_take] at this; have := HFX.out; omega
        by_cases m1 : i < xp
        · have m2 : (i : Int) < (xp : Int) := by omega
          by_cases m3 : (i : Int) < k
          · have q3 : decide ((i : Int) < k) = true := decide_eq_true m3
            obtain ⟨s, hs⟩ : ∃ s, x.a.p[i]? = some s := ⟨_, List.getElem?_eq_getElem (by rw [HXP.out]; exact m1)⟩
            have hpp := (HXO.out.below (HB23.out.trans (HBI.out.mono HB23.out.size))).p
            obtain ⟨gp, op, hpA, hpr⟩ := hpp.row (by rw [HXP.out]; omega)
            obtain ⟨p0, p1⟩ := hpr i s hs
            have hpc : (i : Int) < (x.pc : Int) := by have := hpp.cap; rw [HXP.out] at this; omega
            rw [hpA] at e2
            have hdone := rdone_any wr A c b.length b s hsl rfl (by omega) (by rw [HBB.out]; exact okS_at HOX.out hs)
            unfold DSt.v at hdone
            have HDONE := Lib.hid hdone
            have HSO := Lib.hid hs
            clear hdone hs hpp hpr hsl hpA
            go_wp2_with fail
            refine HDONE.out.mono ?_
            rintro e w5 ⟨A5, c5, rfl, hb5, h5⟩
            have HB5 := Lib.hid hb5
            have H5 := Lib.hid h5
            clear hb5 h5 HDONE
            go_wp2_with fail
            go_roundw
            case rel =>
              have hz5 := HBI.out.size
              exact ⟨i + 1, A5, c5, s.on b, by omega, by omega, by go_num, rfl, (show _ = _ from by rw [List.take_add_one, HSO.out, runS_append, ← HBB.out]; rfl), (show Below _ _ _ from HBI.out.trans (HB5.out.mono hz5)), (show StandS _ _ _ _ _ _ _ _ from HSS.out.more hz5 HB5.out H5.out)⟩
            case measure => simp [intOf]; omega
          · have q3 : decide ((i : Int) < k) = false := decide_eq_false m3
            have hend : b = (keepA k.toNat x.a).l := by rw [HBB.out]; show _ = runS x.a.l (x.a.p.take k.toNat); rw [show i = k.toNat by omega]
            have hbw5 := HB23.out.trans (HBI.out.mono HB23.out.size)
            have hset := rset_any wr ⟨some ⟨g, o, none⟩, C', R', Q'⟩ d' j n ⟨A, c, A, c, none, 0, ⟨b, []⟩⟩ (HREF.out.below hbw5) HF.out hjr ⟨hsl, hsl, StepsAt.none wr⟩
            unfold RT.v RX.v at hset
            have hnow : (⟨b, []⟩ : DAr).now = b := rfl
            rw [hnow] at hset
            dsimp only [List.length_nil] at hset
            obtain ⟨d5, hd5⟩ : ∃ d5, d'.setA j ⟨b, []⟩ = d5 := ⟨_, rfl⟩
            rw [hd5] at hset
            have HSET := Lib.hid hset
            have HD5 := Lib.hid hd5
            have HEND := Lib.hid hend
            have hwr := (hbw5.block w.heap.size (by have := HB.out.2; omega)).trans HW0.out
            have hwz := (hbw5.block (w.heap.size + 1) (by have := HB.out.2; omega)).trans HW1.out
            have f0 := cell_of_row wr w.heap.size 0 _ _ _ hwr
            have f1 := cell_of_row wr w.heap.size 1 _ _ _ hwr
            have f2 := cell_of_row wr w.heap.size 2 _ _ _ hwr
            have f3 := cell_of_row wr w.heap.size 3 _ _ _ hwr
            have f4 := cell_of_row wr w.heap.size 4 _ _ _ hwr
            have HW0' := Lib.hid hwr
            have HW1' := Lib.hid hwz
            have HBW5 := Lib.hid hbw5
            clear hset hd5 hend hwr hwz hnow hsl hbw5 c0 c1 c2 c3 c4
            go_wp2_with fail
            refine HSET.out.mono ?_
            rintro e w6 ⟨t5, rfl, hb6, h6⟩
            obtain ⟨A5, C5, R5, Q5⟩ := t5
            have hz6 := (hb6.block w.heap.size (by have := HB.out.2; have := HBW5.out.size; omega)).trans HW0'.out
            have hy6 := (hb6.block (w.heap.size + 1) (by have := HB.out.2; have := HBW5.out.size; omega)).trans HW1'.out
            obtain ⟨w7, hw7, hY1, hO7, r0, r1, r2, r3, r4, g0, g1, g2, g3, g4⟩ := ret5 hz6 (.slice A5 R5.length C5) (.int .i64 (d5.room : Int)) (.bool d5.pw.isSome) (.int .i64 Q5) (.bool d5.dead)
            have HW7 := Lib.hid hw7
            have HBX := Lib.hid hY1
            have HY7 := Lib.hid hy6
            have HO7 := Lib.hid hO7
            have HB6 := Lib.hid hb6
            have H6 := Lib.hid h6
            clear hw7 hY1 hz6 hy6 hO7 hb6 h6 HSET
            unfold RT.v
            dsimp only
            go_wp2_with fail
            rw [HW7.out]
            go_roundw
            case rel =>
              have s5 := HBW5.out.size
              have s6 := HB6.out.size
              have sB := HB.out.2
              have s7 := HO7.out.size
              have hbw6 : Below wc.heap.size wc w6 := HBW5.out.trans (HB6.out.mono s5)
              have hRD := HRD.out.next HDX.out
              have ekk : (keepA k.toNat x.a) = ⟨b, []⟩ := by rw [HEND.out]; rfl
              rw [ekk, HD5.out] at hRD
              refine ⟨j + 1, ⟨A5, C5, R5, Q5⟩, d5, by omega, by go_num, (show _ ∧ _ from ⟨HBX.out, (HO7.out.block _ (by omega)).trans HY7.out⟩), (show _ ∧ _ from ⟨only_below (HB.out.1.trans (hbw6.mono HB.out.1.size)) HO7.out (Nat.le_refl _), by omega⟩), (show Stand _ _ _ _ _ from fun W hW hR => ?_), hRD, (show DDk.fits _ _ from by rw [← HD5.out, ← ekk]; exact setA_fits HF.out (keep_fits HFX.out))⟩
              have hag : ∀ q, w.heap.size + 2 ≤ q → q < w6.heap.size → W.heap[q]? = w6.heap[q]? := fun q h1 h2 => (hW q h1 (by omega)).trans (HO7.out.block q (by omega))
              have hrW : RefAt W ⟨some ⟨g, o, none⟩, C', R', Q'⟩ d' := HST.out W (fun q h1 h2 => (hag q h1 (by omega)).trans (hbw6.block q h2)) hR
              have hsW : SlAt W A c b := HSS.out W (fun q h1 h2 => (hag q (by omega) (by omega)).trans (HB6.out.block q h2)) (hrW.areas.each x (List.mem_of_getElem? HHX.out)).l
              exact H6.out W (fun q h1 h2 => hag q (by omega) h2) hrW.areas.each ⟨hsW, hsW, StepsAt.none W⟩
            case measure => simp [intOf]; omega

        · have m2 : ¬ (i : Int) < (xp : Int) := by omega
          have hend : b = (keepA k.toNat x.a).l := by rw [HBB.out]; show _ = runS x.a.l (x.a.p.take k.toNat); rw [List.take_of_length_le (by rw [HXP.out]; omega), List.take_of_length_le (by rw [HXP.out]; omega)]
          have hbw5 := HB23.out.trans (HBI.out.mono HB23.out.size)
          have hset := rset_any wr ⟨some ⟨g, o, none⟩, C', R', Q'⟩ d' j n ⟨A, c, A, c, none, 0, ⟨b, []⟩⟩ (HREF.out.below hbw5) HF.out hjr ⟨hsl, hsl, StepsAt.none wr⟩
          unfold RT.v RX.v at hset
          have hnow : (⟨b, []⟩ : DAr).now = b := rfl
          rw [hnow] at hset
          dsimp only [List.length_nil] at hset
          obtain ⟨d5, hd5⟩ : ∃ d5, d'.setA j ⟨b, []⟩ = d5 := ⟨_, rfl⟩
          rw [hd5] at hset
          have HSET := Lib.hid hset
          have HD5 := Lib.hid hd5
          have HEND := Lib.hid hend
          have hwr := (hbw5.block w.heap.size (by have := HB.out.2; omega)).trans HW0.out
          have hwz := (hbw5.block (w.heap.size + 1) (by have := HB.out.2; omega)).trans HW1.out
          have f0 := cell_of_row wr w.heap.size 0 _ _ _ hwr
          have f1 := cell_of_row wr w.heap.size 1 _ _ _ hwr
          have f2 := cell_of_row wr w.heap.size 2 _ _ _ hwr
          have f3 := cell_of_row wr w.heap.size 3 _ _ _ hwr
          have f4 := cell_of_row wr w.heap.size 4 _ _ _ hwr
          have HW0' := Lib.hid hwr
          have HW1' := Lib.hid hwz
          have HBW5 := Lib.hid hbw5
          clear hset hd5 hend hwr hwz hnow hsl hbw5 c0 c1 c2 c3 c4
          go_wp2_with fail
          refine HSET.out.mono ?_
          rintro e w6 ⟨t5, rfl, hb6, h6⟩
          obtain ⟨A5, C5, R5, Q5⟩ := t5
          have hz6 := (hb6.block w.heap.size (by have := HB.out.2; have := HBW5.out.size; omega)).trans HW0'.out
          have hy6 := (hb6.block (w.heap.size + 1) (by have := HB.out.2; have := HBW5.out.size; omega)).trans HW1'.out
          obtain ⟨w7, hw7, hY1, hO7, r0, r1, r2, r3, r4, g0, g1, g2, g3, g4⟩ := ret5 hz6 (.slice A5 R5.length C5) (.int .i64 (d5.room : Int)) (.bool d5.pw.isSome) (.int .i64 Q5) (.bool d5.dead)
          have HW7 := Lib.hid hw7
          have HBX := Lib.hid hY1
          have HY7 := Lib.hid hy6
          have HO7 := Lib.hid hO7
          have HB6 := Lib.hid hb6
          have H6 := Lib.hid h6
          clear hw7 hY1 hz6 hy6 hO7 hb6 h6 HSET
          unfold RT.v
          dsimp only
          go_wp2_with fail
          rw [HW7.out]
          go_roundw
          case rel =>
            have s5 := HBW5.out.size
            have s6 := HB6.out.size
            have sB := HB.out.2
            have s7 := HO7.out.size
            have hbw6 : Below wc.heap.size wc w6 := HBW5.out.trans (HB6.out.mono s5)
            have hRD := HRD.out.next HDX.out
            have ekk : (keepA k.toNat x.a) = ⟨b, []⟩ := by rw [HEND.out]; rfl
            rw [ekk, HD5.out] at hRD
            refine ⟨j + 1, ⟨A5, C5, R5, Q5⟩, d5, by omega, by go_num, (show _ ∧ _ from ⟨HBX.out, (HO7.out.block _ (by omega)).trans HY7.out⟩), (show _ ∧ _ from ⟨only_below (HB.out.1.trans (hbw6.mono HB.out.1.size)) HO7.out (Nat.le_refl _), by omega⟩), (show Stand _ _ _ _ _ from fun W hW hR => ?_), hRD, (show DDk.fits _ _ from by rw [← HD5.out, ← ekk]; exact setA_fits HF.out (keep_fits HFX.out))⟩
            have hag : ∀ q, w.heap.size + 2 ≤ q → q < w6.heap.size → W.heap[q]? = w6.heap[q]? := fun q h1 h2 => (hW q h1 (by omega)).trans (HO7.out.block q (by omega))
            have hrW : RefAt W ⟨some ⟨g, o, none⟩, C', R', Q'⟩ d' := HST.out W (fun q h1 h2 => (hag q h1 (by omega)).trans (hbw6.block q h2)) hR
            have hsW : SlAt W A c b := HSS.out W (fun q h1 h2 => (hag q (by omega) (by omega)).trans (HB6.out.block q h2)) (hrW.areas.each x (List.mem_of_getElem? HHX.out)).l
            exact H6.out W (fun q h1 h2 => hag q (by omega) h2) hrW.areas.each ⟨hsW, hsW, StepsAt.none W⟩
          case measure => simp [intOf]; omega

    · obtain rfl : j = TR.length := by omega
      have HRL := Lib.hid hrl
      have hdl : d.as.length = TR.length := HH.out.len
      have hRD := HRD.out
      rw [← hdl] at hRD
      have HAS := Lib.hid (show d.restart k = ⟨d'.as, d'.room, none, false⟩ by rw [hRD.end_, hRD.room]; rfl)
      have k2 : ¬ ((TR.length : Int) < (R'.length : Int)) := by omega
      clear hRD hdl hrl href
      have y2 := heap_setCell_same wc w.heap.size 2 _ _ (.bool false) hwr
      have y4 := heap_setCell_same _ w.heap.size 4 _ _ (.bool false) y2
      have o1 := OnlyB.set wc w.heap.size 2 (.bool false)
      obtain ⟨X1, hX1⟩ : ∃ X, wc.setCell ⟨w.heap.size, 2, none⟩ (.bool false) = X := ⟨_, rfl⟩
      rw [hX1] at y2 y4 o1
      have o2 := OnlyB.set X1 w.heap.size 4 (.bool false)
      obtain ⟨X2, hX2⟩ : ∃ X, X1.setCell ⟨w.heap.size, 4, none⟩ (.bool false) = X := ⟨_, rfl⟩
      rw [hX2] at y4 o2
      have fx2 := frozen_of_row wc w.heap.size 2 _ _ hwr
      have fy4 := frozen_of_row X1 w.heap.size 4 _ _ y2
      have cy4 := cell_of_row X1 w.heap.size 4 _ _ _ y2
      have y4 : X2.heap[w.heap.size]? = some (.cells #[.slice A' R'.length C', .int .i64 (d'.room : Int), .bool false, .int .i64 Q', .bool false] 57 (0, 0)) := y4
      have k0 := cell_of_row X2 w.heap.size 0 _ _ _ y4
      have k1 := cell_of_row X2 w.heap.size 1 _ _ _ y4
      have k2 := cell_of_row X2 w.heap.size 2 _ _ _ y4
      have k3 := cell_of_row X2 w.heap.size 3 _ _ _ y4
      have k4 := cell_of_row X2 w.heap.size 4 _ _ _ y4
      have zz := (o2.block (w.heap.size + 1) (by omega)).trans ((o1.block _ (by omega)).trans hwz)
      obtain ⟨Y, hY, hY1, hY2, r0, r1, r2, r3, r4, f0, f1, f2, f3, f4⟩ := ret5 zz (.slice A' R'.length C') (.int .i64 (d'.room : Int)) (.bool false) (.int .i64 Q') (.bool false)
      have HY := Lib.hid hY
      have HY1 := Lib.hid hY1
      have HX1 := Lib.hid hX1
      have HX2 := Lib.hid hX2
      have HFIN := Lib.hid (show RPT w ⟨TA, TC, TR, TQ⟩ ⟨d'.as, d'.room, none, false⟩ (.returned (.agg #[.slice A' R'.length C', .int .i64 (d'.room : Int), .bool false, .int .i64 Q', .bool false])) Y from by
        have hs1 := o1.size
        have hs2 := o2.size
        have hs3 := hY2.size
        have hsB := HB.out.2
        refine ⟨⟨A', C', R', Q'⟩, rfl, only_below (only_below (only_below HB.out.1 o1 (Nat.le_refl _)) o2 (Nat.le_refl _)) hY2 (by omega), fun W hW hR => ?_⟩
        have hr := (((HST.out.only o1 (by omega)).only o2 (by omega)).only hY2 (by omega)) W (fun b h1 h2 => hW b (by omega) h2) hR
        exact ⟨hr.areas, hr.as_, fun _ e => by cases e⟩)
      clear hY hY1 hY2 hX1 hX2 y2 y4 o1 o2 zz hwr hwz
      go_upto_region 12 with (fail)
      rw [HX1.out]
      go_upto_region 13 with (fail)
      rw [HX2.out]
      go_wp2_with fail
      rw [HY.out]
      exact bodyPost_ret (results_cell_row rfl _ _ _ _ _ (0, 0) _ rfl HY1.out Try.underlying57 rfl (by kernel_rfl)) rfl (by rw [HAS.out]; exact HFIN.out)
end Go.Proofs.Ytojkifcclgecoaa.Dk
