/-
  The walk of BuildDirs.
-/
import Derived.Test.YtlampcelmlejbaaDoorBdUse
import Derived.Test.YtlampcelmlejbaaDoorBdPrint
import Derived.BigQuiet
import Derived.IntWalk
namespace Go.Proofs.YtlampcelmlejbaaDoor
open Go Go.RowKit Go.Shelf Go.Proofs
attribute [local go_sem] Oper.semAt_some

def SzS (M : Nat) (l : List Tg) : Prop := ∀ x ∈ l, ∀ d ∈ x.s, d.length ≤ M
theorem SzS.line {M m : Nat} {dir : Bs} {l l' : List Tg} {ws : List Bs} (h : SzS M l) (hw : ∀ p ∈ ws, p.length ≤ m) (hM : dir.length + m + 1 ≤ M) (e : lineT dir l ws = .ok l') : SzS M l' := by
  unfold lineT at e
  split at e
  · cases e; exact h
  · rename_i wd s
    have hs := hw s (by simp)
    unfold actT at e
    split at e
    · unfold targetT at e
      split at e
      · split at e
        · cases e
        · cases e
          intro x hx
          rcases List.mem_append.1 hx with hx | hx
          · exact h x hx
          · simp only [List.mem_singleton] at hx; subst hx
            intro d hd
            cases hd
      · cases e
    · split at e
      · unfold srcT at e
        split at e
        · cases e
          intro x hx
          rcases lastM_mem _ _ _ hx with hx | ⟨y, hy, rfl⟩
          · exact h x hx
          · intro d hd
            rcases List.mem_append.1 hd with hd | hd
            · exact h y hy d hd
            · obtain rfl : d = join2 dir s := by simpa using hd
              unfold join2
              split
              · omega
              · split
                · omega
                · rw [List.length_append, List.length_cons]; omega
        · cases e
      · split at e
        · unfold depT at e
          split at e
          · cases e
          · split at e
            · cases e
            · cases e
              intro x hx
              rcases lastM_mem _ _ _ hx with hx | ⟨y, hy, rfl⟩
              · exact h x hx
              · exact h y hy
        · cases e
  · cases e
theorem SzS.lines {M m : Nat} {dir : Bs} : ∀ (ws : List (List Bs)) (l l' : List Tg), SzS M l → (∀ p ∈ ws, ∀ q ∈ p, q.length ≤ m) → dir.length + m + 1 ≤ M → linesT dir ws (.ok l) = .ok l' → SzS M l'
  | [], l, l', h, _, _, e => by cases e; exact h
  | x :: ws, l, l', h, hw, hM, e => by
    have e1 : linesT dir (x :: ws) (.ok l) = linesT dir ws (lineT dir l x) := rfl
    rw [e1] at e
    cases h2 : lineT dir l x with
    | error n => rw [h2, linesT_err] at e; cases e
    | ok k =>
      rw [h2] at e
      exact SzS.lines ws k l' (h.line (hw x (by simp)) hM h2) (fun p hp => hw p (List.mem_cons_of_mem _ hp)) hM e
theorem parseB_srcs {dir s : Bs} : SzS (dir.length + s.length + 1) (parseB dir s).2 := by
  have h0 : SzS (dir.length + s.length + 1) [] := fun x hx => by cases hx
  unfold parseB
  split
  · exact h0
  · split
    · exact h0
    · split
      · exact h0
      · rename_i l hl
        refine SzS.lines _ [] l h0 ?_ (Nat.le_refl _) hl
        intro p hp q hq
        obtain ⟨y, hy, rfl⟩ := List.mem_map.1 hp
        have h5 := bpiece_le 10 s y hy
        have h6 := bpiece_le 32 _ q (List.mem_filter.1 hq).1
        have h7 := cutT_le y
        omega
theorem parse_fit {dir s : Bs} {l : List TX} (h : tgsX l = (parseB dir s).2) (hd : dir.length ≤ 40) (hs : s.length ≤ 1000) : FitT l := by
  obtain ⟨p1, p2, p3⟩ := parseB_sz (dir := dir) (s := s)
  have p4 := parseB_srcs (dir := dir) (s := s)
  rw [← h] at p1 p2 p3 p4
  rw [tgsX_length] at p2
  refine ⟨by omega, fun x hx => ?_⟩
  have hm : x.tg ∈ tgsX l := List.mem_map.2 ⟨x, hx, rfl⟩
  obtain ⟨a1, a2⟩ := p1 _ hm
  obtain ⟨b1, b2⟩ := p3 _ hm
  have a3 := p4 _ hm
  have e1 : x.tg.n.length = x.n.size := Array.length_toList
  rw [e1] at a1
  have b1 : x.s.length ≤ s.length + 1 := b1
  have b2 : x.d.length ≤ s.length + 1 := b2
  exact ⟨by omega, by omega, by omega, fun p hp => by have := a3 p hp; omega, fun p hp => by have := a2 p hp; omega⟩
theorem ext_tail (xn a : ByteArray) (n : Bs) (h : xn.data.toList = a.data.toList ++ 58 :: n) : xn.extract a.size xn.size = mkB (58 :: n) ∧ a.size ≤ xn.size := by
  have hl : xn.size = a.size + (n.length + 1) := by
    rw [← size_listT, h, List.length_append, size_listT, List.length_cons]
  refine ⟨?_, by omega⟩
  apply ByteArray.ext
  apply Array.ext'
  rw [ByteArray.data_extract, Array.toList_extract, h, List.extract_eq_take_drop, hl, ← size_listT a, List.drop_left]
  show List.take _ _ = 58 :: n
  rw [List.take_of_length_le (by simp)]

set_option maxRecDepth 100000 in
set_option maxHeartbeats 8000000 in
theorem bdirs_law (s a b : ByteArray) (w : World) (hs : s.size ≤ 1000000000000000) (ha : a.size ≤ 1000000000000000) (hb : b.size ≤ 1000000000000000) (hm : MaxOk w) :
    Calls Tryd.prog 5 #[.string s, .string a, .string b] w (BdB true w) := by
  have HK := Lib.hid (fun (W : World) (hb : Below w.heap.size w W) => bknown_any W (hm.below hb))
  have HMX := Lib.hid (fun (W : World) (hb : Below w.heap.size w W) => hm.below hb)
  have HB := Lib.hid (Below.refl w.heap.size w)
  clear hm
  by_cases h1 : 1000 < s.size
  · have g1 : (1000 : Int) < (s.size : Int) := by omega
    go_enter Tryd.func5, Tryd.ntmps5
    go_wp2_with fail
    refine (HK.out _ HB.out).mono ?_
    rintro e y ⟨rfl, hb⟩
    go_wp2_with fail
    go_ret
    exact ⟨rfl, hb⟩
  · have g1 : ¬ (1000 : Int) < (s.size : Int) := by omega
    by_cases h2 : 40 < a.size
    · have g2 : (40 : Int) < (a.size : Int) := by omega
      go_enter Tryd.func5, Tryd.ntmps5
      go_wp2_with fail
      refine (HK.out _ HB.out).mono ?_
      rintro e y ⟨rfl, hb⟩
      go_wp2_with fail
      go_ret
      exact ⟨rfl, hb⟩
    · have g2 : ¬ (40 : Int) < (a.size : Int) := by omega
      by_cases h3 : 40 < b.size
      · have g3 : (40 : Int) < (b.size : Int) := by omega
        go_enter Tryd.func5, Tryd.ntmps5
        go_wp2_with fail
        refine (HK.out _ HB.out).mono ?_
        rintro e y ⟨rfl, hb⟩
        go_wp2_with fail
        go_ret
        exact ⟨rfl, hb⟩
      · have g3 : ¬ (40 : Int) < (b.size : Int) := by omega
        have H1 := bparse_any a s w (by omega) (HMX.out w HB.out)
        have hfit := fun (l : List TX) (h : tgsX l = (parseB a.data.toList s.data.toList).2) => parse_fit h (by rw [size_listT]; omega) (by rw [size_listT]; omega)
        have htw := parse_twins a.data.toList b.data.toList s.data.toList
        have H2 := fun (W : World) (hb : Below w.heap.size w W) => bparse_any b s W (by omega) (HMX.out W hb)
        obtain ⟨PP, hPP⟩ : ∃ PP, parseB a.data.toList s.data.toList = PP := ⟨_, rfl⟩
        obtain ⟨QQ, hQQ⟩ : ∃ PP, parseB b.data.toList s.data.toList = PP := ⟨_, rfl⟩
        rw [hPP] at H1 hfit
        rw [hQQ] at H2
        rw [hPP, hQQ] at htw
        obtain ⟨PE, PL⟩ := PP
        obtain ⟨QE, QL⟩ := QQ
        have H1 := Lib.hid H1
        have H2 := Lib.hid H2
        have HFIT := Lib.hid hfit
        have HTW := Lib.hid htw
        clear hPP hQQ hfit htw
        go_enter Tryd.func5, Tryd.ntmps5
        go_wp2_with fail
        refine H1.out.mono ?_
        rintro e w1 ⟨A1, c1, l1, rfl, hat1, hl1, hb1⟩
        have HB1 := Lib.hid hb1
        have HAT1 := Lib.hid hat1
        have HL1 := Lib.hid (show tgsX l1 = PL from hl1)
        obtain ⟨N, hN⟩ : ∃ N, l1.length = N := ⟨_, rfl⟩
        rw [hN]
        have HN := Lib.hid hN
        have hnm : N ≤ 9223372036854775807 := by have h1 := hat1.cap; have h2 := hat1.capm; rw [hN] at h1; simp only [maxLen] at h2; omega
        clear hb1 hat1 hl1 H1 hN
        go_wp2_with fail
        refine (H2.out w1 HB1.out).mono ?_
        rintro e w2 ⟨A2, c2, l2, rfl, hat2, hl2, hb2⟩
        have HB2 := Lib.hid (HB1.out.trans (hb2.mono HB1.out.size))
        have HAT1 := Lib.hid (HAT1.out.below hb2)
        have HAT2 := Lib.hid hat2
        have HL2 := Lib.hid (show tgsX l2 = QL from hl2)
        clear hb2 hat2 hl2 H2
        by_cases hp : PE = 0
        · subst hp
          by_cases hq : QE = 0
          · subst hq
            have htw := HTW.out rfl rfl
            have hlen : l2.length = N := by
              have := htw.length
              rw [← HN.out, ← tgsX_length, ← tgsX_length, HL1.out, HL2.out]
              exact this.symm
            rw [hlen]
            have HN2 := Lib.hid hlen
            have HTW2 := Lib.hid (show Twins a.data.toList b.data.toList (tgsX l1) (tgsX l2) by rw [HL1.out, HL2.out]; exact htw)
            clear htw hlen
            go_wp2_with fail
            go_loopw [11] (fun v wr => ∃ (i : Nat), i ≤ N ∧ v = .int .i64 i ∧ Below w2.heap.size w2 wr) (fun v _ => N - (intOf v).toNat)
            case atStart => exact ⟨0, Nat.zero_le _, rfl, Below.refl _ _⟩
            case round =>
              obtain ⟨i, hi, rfl, hbr⟩ := hrel
              have HBR := Lib.hid hbr
              clear hbr
              by_cases h1 : i < N
              · have i1 : (i : Int) < (N : Int) := by omega
                obtain ⟨x, hx⟩ : ∃ x, l1[i]? = some x := ⟨_, List.getElem?_eq_getElem (by rw [HN.out]; exact h1)⟩
                obtain ⟨y, hy⟩ : ∃ x, l2[i]? = some x := ⟨_, List.getElem?_eq_getElem (by rw [HN2.out]; exact h1)⟩
                obtain ⟨g, o, hA, hr⟩ := (HAT1.out.below HBR.out).row (by rw [HN.out]; omega)
                subst hA
                obtain ⟨g', o', hA, hr'⟩ := (HAT2.out.below HBR.out).row (by rw [HN2.out]; omega)
                subst hA
                obtain ⟨d0, d1, d2⟩ := hr i x hx
                obtain ⟨e0, e1, e2⟩ := hr' i y hy
                obtain ⟨⟨n, t1, t2⟩, t3, t4⟩ := HTW2.out.at_ i x.tg y.tg (by rw [tgsX_getElem?, hx]; rfl) (by rw [tgsX_getElem?, hy]; rfl)
                have hxo := HAT1.out.own x (List.mem_of_getElem? hx)
                obtain ⟨xn, xA, xc, xs, xB, xb, xd⟩ := x
                obtain ⟨yn, yA, yc, ys, yB, yb, yd⟩ := y
                simp only at d0 d1 d2 e0 e1 e2
                have t3 : xs.length = ys.length := t3
                have t4 : xd.length = yd.length := t4
                obtain ⟨x1, x2⟩ := ext_tail xn a n t1
                obtain ⟨y1, y2⟩ := ext_tail yn b n t2
                obtain ⟨ee, hee⟩ : ∃ e, mkB (58 :: n) = e := ⟨_, rfl⟩
                rw [hee] at x1 y1
                obtain ⟨ns, hns⟩ : ∃ ns, ys.length = ns := ⟨_, rfl⟩
                obtain ⟨nd, hnd⟩ : ∃ nd, yd.length = nd := ⟨_, rfl⟩
                rw [t3, hns] at d1
                rw [t4, hnd] at d2
                rw [hns] at e1
                rw [hnd] at e2
                have x3 : (a.size : Int) ≤ (xn.size : Int) := by omega
                have y3 : (b.size : Int) ≤ (yn.size : Int) := by omega
                have s1 : (ee.toList == ee.toList) = true := beq_self_eq_true _
                have s2 : (ee.toList != ee.toList) = false := bne_self_eq_false _
                clear hx hy hr hr' t1 t2 t3 t4 hxo hee hns hnd
                go_wp2_with fail
                go_quiet (fail)
                go_wp2_with fail
                go_roundw
                case rel => exact ⟨i + 1, by omega, by go_num, ⟨HBR.out.os, HBR.out.tape, HBR.out.output, HBR.out.size, HBR.out.block⟩⟩
                case measure => simp [intOf]; omega
              · obtain rfl : N = i := by omega
                have hbw := HB2.out.trans (HBR.out.mono HB2.out.size)
                have HBW := Lib.hid hbw
                have HP := bprint_any l1 A1 c1 wr (HAT1.out.below HBR.out) (HFIT.out l1 HL1.out) (HMX.out wr hbw)
                rw [empty_len, HN.out] at HP
                have HP := Lib.hid HP
                clear hbw
                go_wp2_with fail
                refine HP.out.mono ?_
                rintro e w4 ⟨⟨bb, rfl, hbb⟩, hb4⟩
                have HBF := Lib.hid (HBW.out.trans (hb4.mono HBW.out.size))
                clear hb4 HP
                by_cases n0 : N = 0
                · have b1 : bb.toList.isEmpty = true := by rw [hbb]; exact decide_eq_true n0
                  have b2 : ¬ (0 : Int) < (N : Int) := by omega
                  clear hbb n0
                  go_wp2_with fail
                  refine (HK.out w4 HBF.out).mono ?_
                  rintro e y ⟨rfl, hb⟩
                  have HB9 := Lib.hid (HBF.out.trans (hb.mono HBF.out.size))
                  clear hb
                  go_wp2_with fail
                  go_ret
                  exact ⟨rfl, HB9.out⟩
                · have b1 : bb.toList.isEmpty = false := by rw [hbb]; exact decide_eq_false n0
                  have b2 : (0 : Int) < (N : Int) := by omega
                  clear hbb n0
                  go_wp2_with fail
                  refine (HK.out w4 HBF.out).mono ?_
                  rintro e y ⟨rfl, hb⟩
                  have HB9 := Lib.hid (HBF.out.trans (hb.mono HBF.out.size))
                  clear hb
                  go_wp2_with fail
                  go_ret
                  exact ⟨rfl, HB9.out⟩
          · have p1 : (QE == 0) = false := beq_eq_false_iff_ne.2 hq
            have p2 : (QE != 0) = true := bne_iff_ne.2 hq
            clear hq
            go_wp2_with fail
            refine (HK.out _ HB2.out).mono ?_
            rintro e y ⟨rfl, hb⟩
            go_wp2_with fail
            go_ret
            exact ⟨rfl, HB2.out.trans (hb.mono HB2.out.size)⟩
        · have p1 : (PE == 0) = false := beq_eq_false_iff_ne.2 hp
          have p2 : (PE != 0) = true := bne_iff_ne.2 hp
          clear hp
          go_wp2_with fail
          refine (HK.out _ HB2.out).mono ?_
          rintro e y ⟨rfl, hb⟩
          go_wp2_with fail
          go_ret
          exact ⟨rfl, HB2.out.trans (hb.mono HB2.out.size)⟩
end Go.Proofs.YtlampcelmlejbaaDoor
