/-
  The law HistoryCopies, walked.
-/
import Derived.Test.YtkhkjgghnicipaaDoorGCopy
namespace Go.Proofs.YtkhkjgghnicipaaDoor
open Go Go.RowKit Go.Shelf Go.Proofs Go.ChangeMaps Go.Maps Go.WideMaps
attribute [local go_sem] Oper.semAt_some

theorem TreeMade.keepR {base : Nat} {w w' : World} {v : Value} {l : List FX} (h : TreeMade base w v l) (hk : KeepR w w') : TreeMade base w' v l := by
  refine ⟨⟨h.own.1, ?_⟩, fun x hx => (h.bod x hx).keep fun g cur hg => hk g cur _ (.inr (.inl rfl)) hg⟩
  rcases h.own.2 with h1 | ⟨g, cap, cur, h1, h2, h3, h4⟩
  · exact .inl h1
  · exact .inr ⟨g, cap, cur, h1, h2, (hk g cur _ (.inr (.inr rfl)) h3).trans h3, h4⟩

/-- Some history of n revisions behind the first, H; M: where each path was changed last. -/
def SomeM (base : Nat) (w : World) (hb n : Nat) (M : Bs → Nat) (H : List (Nat × List DX)) : Prop := ∃ nm nv cv mb k D, HistAt base w hb n nm M nv cv mb k D H
theorem SomeM.below {base : Nat} {w w' : World} {hb n : Nat} {M : Bs → Nat} {H : List (Nat × List DX)} (h : SomeM base w hb n M H) (hb2 : Below w.heap.size w w') : SomeM base w' hb n M H := by
  obtain ⟨nm, nv, cv, mb, k, D, h⟩ := h
  exact ⟨nm, nv, cv, mb, k, D, h.below hb2⟩
theorem SomeM.num {base : Nat} {w : World} {hb n : Nat} {M : Bs → Nat} {H : List (Nat × List DX)} (h : SomeM base w hb n M H) : H.length = n + 1 := by
  obtain ⟨nm, nv, cv, mb, k, D, h⟩ := h
  exact h.num
theorem SomeM.le {base : Nat} {w : World} {hb n : Nat} {M : Bs → Nat} {H : List (Nat × List DX)} (h : SomeM base w hb n M H) (s : Bs) : M s ≤ n := by
  obtain ⟨nm, nv, cv, mb, k, D, h⟩ := h
  exact h.le s
theorem SomeM.lb {base : Nat} {w : World} {hb n : Nat} {M : Bs → Nat} {H : List (Nat × List DX)} (h : SomeM base w hb n M H) : base ≤ hb := by
  obtain ⟨nm, nv, cv, mb, k, D, h⟩ := h
  exact h.lb
theorem SomeM.head {base : Nat} {w : World} {hb n : Nat} {M : Bs → Nat} {H : List (Nat × List DX)} (h : SomeM base w hb n M H) :
    Calls Tryd.prog 11 #[.pointer (some ⟨hb, 0, none⟩)] w fun e w' => e = .returned (.int .i64 n) ∧ w' = w := by
  obtain ⟨nm, nv, cv, mb, k, D, h⟩ := h
  obtain ⟨A, c, rfl, _⟩ := h.commit_slice
  exact hhead_any hb A n c w (cell_of_row w hb 1 _ _ _ h.heap)
theorem SomeM.last {base : Nat} {w : World} {hb n : Nat} {M : Bs → Nat} {H : List (Nat × List DX)} (h : SomeM base w hb n M H) (s : ByteArray) (hs : s.size ≤ maxLen) :
    Calls Tryd.prog 12 #[.pointer (some ⟨hb, 0, none⟩), .string s] w fun e w' => e = .returned (.int .i64 (M s.data.toList : Int)) ∧ w' = w := by
  obtain ⟨nm, nv, cv, mb, k, D, h⟩ := h
  exact hlast_any hb mb k D M s hs w (cell_of_row w hb 2 _ _ _ h.heap) h.map h.revs
theorem SomeM.atR {base : Nat} {w : World} {hb n : Nat} {M : Bs → Nat} {H : List (Nat × List DX)} (h : SomeM base w hb n M H) {r : Nat} (hr : r ≤ n) (hn : n ≤ 99999) :
    Calls Tryd.prog 13 #[.pointer (some ⟨hb, 0, none⟩), .int .i64 r] w (AtPost H r w) := by
  obtain ⟨nm, nv, cv, mb, k, D, h⟩ := h
  exact hat_any h hr hn
theorem SomeM.copy {base : Nat} {w : World} {hb n : Nat} {M : Bs → Nat} {H : List (Nat × List DX)} (h : SomeM base w hb n M H) (hn : n ≤ 100000) :
    Calls Tryd.prog 10 #[.pointer (some ⟨hb, 0, none⟩)] w fun e w' => ∃ cb, e = .returned (.pointer (some ⟨cb, 0, none⟩)) ∧ SomeM w.heap.size w' cb n M H ∧ Below w.heap.size w w' := by
  obtain ⟨nm, nv, cv, mb, k, D, h⟩ := h
  exact (hcopy_any h hn).mono fun _ _ ⟨cb, cv', mb', h1, h2, h3⟩ => ⟨cb, h1, ⟨_, _, _, _, _, _, h2⟩, h3⟩
def CommitM (w0 : World) (hb n : Nat) (M : Bs → Nat) (H : List (Nat × List DX)) (L : List DX) (w : World) (e : Ending) (w' : World) : Prop :=
  (∃ q : Int, e = .returned (.tuple #[.int .i64 0, .int .i64 q]) ∧ Below w.heap.size w w') ∨
  (∃ G, e = .returned (.tuple #[.int .i64 ((n + 1 : Nat) : Int), .int .i64 0]) ∧ SomeM w0.heap.size w' hb (n + 1) (fun s => if s ∈ (L.map fun x => x.p.data.toList) then n + 1 else M s) ((G, L) :: H) ∧ Below w0.heap.size w w' ∧ KeepR w w')
theorem SomeM.commit {w0 w : World} {hb n : Nat} {M : Bs → Nat} {H : List (Nat × List DX)} (h : SomeM w0.heap.size w hb n M H) (h0 : Below w0.heap.size w0 w) (hn : n < 100000) (x : LX) (hd : DelsAt w0 x.A x.c x.d) (hs : SmallD x.d) (hm : MaxOk w0) :
    Calls Tryd.prog 9 #[.pointer (some ⟨hb, 0, none⟩), .slice x.A x.d.length x.c] w (CommitM w0 hb n M H x.d w) := by
  obtain ⟨nm, nv, cv, mb, k, D, h⟩ := h
  refine (hcommit_any w0 hb n nm M nv cv mb k D H x.d x.A x.c w h h0 hn (DelsKeep.args hd h0 h.lb) hs hm).mono ?_
  rintro e w' (⟨q, _, _, he, hb2⟩ | ⟨nm', nv', cv', mb', k', D', G, _, _, he, hH, hb2, hk⟩)
  · exact .inl ⟨q, he, hb2⟩
  · exact .inr ⟨G, he, ⟨nm', nv', cv', mb', k', D', hH⟩, hb2, hk⟩
theorem SomeM.of {t : List FX} {w : World} {e : Ending} {w' : World} (h : NewPost t w e w') (hr : rightT (flsX t) = true) : ∃ hb G l, e = .returned (.tuple #[.pointer (some ⟨hb, 0, none⟩), .int .i64 0]) ∧ SomeM w.heap.size w' hb 0 (fun _ => 0) [(G, l)] ∧ Below w.heap.size w w' := by
  unfold NewPost at h
  rw [if_pos hr] at h
  obtain ⟨hb, nv, cv, mb, k, D, G, l, he, hH, _, hb2⟩ := h
  exact ⟨hb, G, l, he, ⟨_, nv, cv, mb, k, D, hH⟩, hb2⟩
theorem SomeM.rebase {base base' : Nat} {w : World} {hb n : Nat} {M : Bs → Nat} {H : List (Nat × List DX)} (h : SomeM base w hb n M H) (hb' : base' ≤ base) : SomeM base' w hb n M H := by
  obtain ⟨nm, nv, cv, mb, k, D, h⟩ := h
  exact ⟨nm, nv, cv, mb, k, D, h.rebase hb'⟩




set_option maxRecDepth 100000 in
set_option maxHeartbeats 16000000 in
theorem hcopieslaw_any (t : List FX) (l m : List LX) (s : ByteArray) (A B C : Option Addr) (c d cm : Nat) (w : World) (ht : TreeAt w A c t) (zt : BigX t) (hl : LRowAt w B d l) (hb : longLN l ≤ 4611686018427387904) (hlm : LRowAt w C cm m) (hbm : longLN m ≤ 4611686018427387904) (hs : s.size ≤ maxLen) (hm : MaxOk w) :
    Calls Tryd.prog 3 #[.slice A t.length c, .slice B l.length d, .slice C m.length cm, .string s] w fun e w' => e = .returned (.bool true) ∧ Below w.heap.size w w' := by
  have HSM := Lib.hid (hsmall_any t l A B c d w ht zt hl hb)
  have HSN := Lib.hid (fun (W : World) (h : Below w.heap.size w W) => hsmall_any [] m none C 0 cm W (TreeAt.nil _ _ _ (Nat.zero_le _)) (fun x hx => by cases hx) (hlm.below h) hbm)
  have HKN := Lib.hid (fun (W : World) (h : Below w.heap.size w W) => hknown_any W (hm.below h))
  have HT := Lib.hid ht
  have HL := Lib.hid hl
  have HLM := Lib.hid hlm
  have HM := Lib.hid hm
  have HSZ := Lib.hid hs
  have hcap : l.length ≤ maxLen := Nat.le_trans hl.cap hl.capm
  have hcapm : m.length ≤ maxLen := Nat.le_trans hlm.cap hlm.capm
  have hss : s.size ≤ maxLen := hs
  unfold maxLen at hcap hcapm hss
  clear ht zt hl hb hlm hbm hm hs
  cases h1 : hsmallL t l with
  | false =>
    rw [h1] at HSM
    clear h1
    go_enter Tryd.func3, Tryd.ntmps3
    go_wp2_with fail
    refine HSM.out.mono ?_
    rintro e w1 ⟨rfl, hb1⟩
    have HB1 := Lib.hid hb1
    clear hb1
    go_wp2_with fail
    refine (HKN.out w1 HB1.out).mono ?_
    rintro e w9 ⟨rfl, hb9⟩
    have HB9 := Lib.hid (HB1.out.trans (hb9.mono HB1.out.size))
    clear hb9
    go_wp2_with fail
    go_ret
    exact ⟨rfl, HB9.out⟩
  | true =>
  rw [h1] at HSM
  have HST := Lib.hid (small_treeG h1)
  have HSD := Lib.hid (fun x (hx : x ∈ l) => small_delsG h1 hx)
  have h25 : l.length ≤ 25 := by
    unfold hsmallL at h1
    simp only [Bool.and_eq_true, decide_eq_true_eq] at h1
    exact h1.1.2
  clear h1
  cases h2 : hsmallL [] m with
  | false =>
    rw [h2] at HSN
    clear h2
    go_enter Tryd.func3, Tryd.ntmps3
    go_wp2_with fail
    refine HSM.out.mono ?_
    rintro e w1 ⟨rfl, hb1⟩
    have HB1 := Lib.hid hb1
    clear hb1
    go_wp2_with fail
    refine (HSN.out w1 HB1.out).mono ?_
    rintro e w2 ⟨rfl, hb2⟩
    have HB2 := Lib.hid (HB1.out.trans (hb2.mono HB1.out.size))
    clear hb2
    go_wp2_with fail
    refine (HKN.out w2 HB2.out).mono ?_
    rintro e w9 ⟨rfl, hb9⟩
    have HB9 := Lib.hid (HB2.out.trans (hb9.mono HB2.out.size))
    clear hb9
    go_wp2_with fail
    go_ret
    exact ⟨rfl, HB9.out⟩
  | true =>
  rw [h2] at HSN
  have HSE := Lib.hid (fun x (hx : x ∈ m) => small_delsG h2 hx)
  have h25m : m.length ≤ 25 := by
    unfold hsmallL at h2
    simp only [Bool.and_eq_true, decide_eq_true_eq] at h2
    exact h2.1.2
  clear h2
  go_enter Tryd.func3, Tryd.ntmps3
  go_wp2_with fail
  refine HSM.out.mono ?_
  rintro e w1 ⟨rfl, hb1⟩
  have HB1 := Lib.hid hb1
  clear hb1
  go_wp2_with fail
  refine (HSN.out w1 HB1.out).mono ?_
  rintro e w2 ⟨rfl, hb2⟩
  have HB2 := Lib.hid (HB1.out.trans (hb2.mono HB1.out.size))
  clear hb2
  by_cases h200 : 200 < s.size
  · have k200 : (200 : Int) < (s.size : Int) := by omega
    clear h200
    go_wp2_with fail
    refine (HKN.out w2 HB2.out).mono ?_
    rintro e w9 ⟨rfl, hb9⟩
    have HB9 := Lib.hid (HB2.out.trans (hb9.mono HB2.out.size))
    clear hb9
    go_wp2_with fail
    go_ret
    exact ⟨rfl, HB9.out⟩
  have k200 : ¬ (200 : Int) < (s.size : Int) := by omega
  have HNEW := Lib.hid (hnew_any t A c w2 (HT.out.below HB2.out) HST.out (HM.out.below HB2.out))
  clear h200 HSM HSN
  go_wp2_with fail
  refine HNEW.out.mono ?_
  intro e w3 hp
  cases hr : rightT (flsX t) with
  | false =>
    unfold NewPost at hp
    rw [if_neg (by rw [hr]; decide)] at hp
    obtain ⟨rfl, hb3⟩ := hp
    have HB3 := Lib.hid (HB2.out.trans (hb3.mono HB2.out.size))
    clear hb3 hr
    go_wp2_with fail
    refine (HKN.out w3 HB3.out).mono ?_
    rintro e w9 ⟨rfl, hb9⟩
    have HB9 := Lib.hid (HB3.out.trans (hb9.mono HB3.out.size))
    clear hb9
    go_wp2_with fail
    go_ret
    exact ⟨rfl, HB9.out⟩
  | true =>
  obtain ⟨hb, G, l0, rfl, hH, hb3⟩ := SomeM.of hp hr
  have HB3 := Lib.hid (HB2.out.trans (hb3.mono HB2.out.size))
  have HS0 := Lib.hid (hH.rebase HB2.out.size)
  clear hb3 hH hr HNEW hp
  go_wp2_with fail
  go_loopw [11] (fun i wr => ∃ (j n : Nat) (M : Bs → Nat) (H : List (Nat × List DX)), j ≤ l.length ∧ n ≤ j ∧ i = .int .i64 j ∧ SomeM w.heap.size wr hb n M H ∧ Below w.heap.size w wr) (fun i _ => l.length - (intOf i).toNat)
  case atStart => exact ⟨0, 0, _, _, Nat.zero_le _, Nat.le_refl _, rfl, HS0.out, HB3.out⟩
  case round =>
    clear HS0 HB3
    obtain ⟨j, n, M, H, hj, hnj, rfl, hS, hbr⟩ := hrel
    have HBR := Lib.hid hbr
    have HS := Lib.hid hS
    clear hbr hS
    by_cases h1 : j < l.length
    · obtain ⟨x, hx⟩ : ∃ x, l[j]? = some x := ⟨_, List.getElem?_eq_getElem h1⟩
      obtain ⟨g, o, hB, hrw⟩ := HL.out.row (by omega)
      have c0 := hrw j x hx
      have hmem := List.mem_of_getElem? hx
      have c1 := (HBR.out.cell (p := ⟨g, o + j, none⟩) (World.block_lt_of_cell? w (a := ⟨g, o + j, none⟩) c0)).trans c0
      have HC := Lib.hid (HS.out.commit HBR.out (by omega) x (HL.out.dels x hmem) (HSD.out x hmem) HM.out)
      have k1 : (j : Int) < (l.length : Int) := by omega
      have HJL := Lib.hid h1
      have HNJ := Lib.hid hnj
      subst hB
      clear hx hrw hmem hnj h1 hj c0
      go_wp2_with fail
      refine HC.out.mono ?_
      intro e w4 hp
      rcases hp with ⟨q, rfl, hb4⟩ | ⟨G4, rfl, hS4, hb4, _⟩
      · have HB4 := Lib.hid (HBR.out.trans (hb4.mono HBR.out.size))
        have HS4 := Lib.hid (HS.out.below hb4)
        clear hb4 c1
        go_wp2_with fail
        go_roundw
        case rel => exact ⟨j + 1, n, M, H, by have := HJL.out; omega, by have := HNJ.out; omega, by go_num, HS4.out, HB4.out⟩
        case measure => have := HJL.out; simp [intOf]; omega
      · have HB4 := Lib.hid (HBR.out.trans hb4)
        have HS4 := Lib.hid hS4
        clear hb4 hS4 c1
        go_wp2_with fail
        go_roundw
        case rel => exact ⟨j + 1, n + 1, _, _, by have := HJL.out; omega, by have := HNJ.out; omega, by go_num, HS4.out, HB4.out⟩
        case measure => have := HJL.out; simp [intOf]; omega
    · obtain rfl : j = l.length := by omega
      obtain ⟨wc, hwc⟩ : ∃ wc, wc = wr := ⟨_, rfl⟩
      subst hwc
      have HN25 := Lib.hid (show n ≤ 25 by omega)
      have HCP := Lib.hid (HS.out.copy (by omega))
      clear h1 hj hnj
      go_wp2_with fail
      refine HCP.out.mono ?_
      rintro e w5 ⟨cb, rfl, hcs, hb5⟩
      have HS5 := Lib.hid (HS.out.below hb5)
      have HC5 := Lib.hid hcs
      have HB5 := Lib.hid hb5
      have HHD := Lib.hid HS5.out.head
      have HLA := Lib.hid (HS5.out.last s HSZ.out)
      have HAT := Lib.hid (HS5.out.atR (r := n) (Nat.le_refl _) (by have := HN25.out; omega))
      clear hcs hb5 HCP
      go_wp2_with fail
      refine HHD.out.mono ?_
      rintro e w9 ⟨rfl, hw9⟩
      have hw9 := hw9.symm
      subst hw9
      go_wp2_with fail
      refine HLA.out.mono ?_
      rintro e w9 ⟨rfl, hw9⟩
      have hw9 := hw9.symm
      subst hw9
      go_wp2_with fail
      refine HAT.out.mono ?_
      rintro e w6 ⟨v, fu, rfl, htu, hiu, hlu, hb6⟩
      obtain ⟨Au, cu, rfl⟩ := htu.own.slice
      have HTU := Lib.hid htu
      have HIU := Lib.hid hiu
      have HLU := Lib.hid hlu
      have HB6 := Lib.hid (HB5.out.trans (hb6.mono HB5.out.size))
      have HC6 := Lib.hid (HC5.out.below hb6)
      have hnum := HS.out.num
      have HNUM := Lib.hid hnum
      obtain ⟨q0, hq0⟩ : ∃ q, M s.data.toList = q := ⟨_, rfl⟩
      have HQ0 := Lib.hid hq0
      have HQN := Lib.hid (show q0 ≤ n by rw [← hq0]; exact HS.out.le _)
      rw [hq0] at HLA ⊢
      clear htu hiu hlu hb6 HAT hnum hq0
      go_wp2_with fail
      go_loopw [17] (fun i wq => ∃ (j n' : Nat) (M' : Bs → Nat) (P : List (Nat × List DX)), j ≤ m.length ∧ n ≤ n' ∧ n' ≤ n + j ∧ i = .int .i64 j ∧ Hid (q0 ≤ M' s.data.toList) ∧ SomeM wc.heap.size wq cb n' M' (P ++ H) ∧ TreeMade w5.heap.size wq (.slice Au fu.length cu) fu ∧ Below wc.heap.size wc wq) (fun i _ => m.length - (intOf i).toNat)
      case atStart => exact ⟨0, n, M, [], Nat.zero_le _, Nat.le_refl _, Nat.le_refl _, rfl, Lib.hid (by rw [HQ0.out]; exact Nat.le_refl _), HC6.out, HTU.out, HB6.out⟩
      case round =>
        clear HC6 HTU HB6
        obtain ⟨j, n', M', P, hj, hn1, hn2, rfl, hq, hS, htu, hbq⟩ := hrel
        have HBQ := Lib.hid hbq
        have HSC := Lib.hid hS
        have HTU := Lib.hid htu
        have hbw := HBR.out.trans (hbq.mono HBR.out.size)
        have HBW := Lib.hid hbw
        clear hbq hS htu
        by_cases h1 : j < m.length
        · obtain ⟨x, hx⟩ : ∃ x, m[j]? = some x := ⟨_, List.getElem?_eq_getElem h1⟩
          obtain ⟨g, o, hB, hrw⟩ := HLM.out.row (by omega)
          have c0 := hrw j x hx
          have hmem := List.mem_of_getElem? hx
          have c1 := (hbw.cell (p := ⟨g, o + j, none⟩) (World.block_lt_of_cell? w (a := ⟨g, o + j, none⟩) c0)).trans c0
          have HC := Lib.hid (HSC.out.commit HBQ.out (by have := HN25.out; omega) x ((HLM.out.dels x hmem).below HBR.out) (HSE.out x hmem) (HM.out.below HBR.out))
          have k1 : (j : Int) < (m.length : Int) := by omega
          have HJL := Lib.hid h1
          have HN1 := Lib.hid hn1
          have HN2 := Lib.hid hn2
          subst hB
          clear hx hrw hmem hn1 hn2 h1 hj c0 hbw
          go_wp2_with fail
          refine HC.out.mono ?_
          intro e w7 hp
          rcases hp with ⟨q, rfl, hb7⟩ | ⟨G7, rfl, hS7, hb7, hk7⟩
          · have HB7 := Lib.hid (HBQ.out.trans (hb7.mono HBQ.out.size))
            have HS7 := Lib.hid (HSC.out.below hb7)
            have HT7 := Lib.hid (HTU.out.below hb7)
            clear hb7 c1
            go_wp2_with fail
            go_roundw
            case rel => exact ⟨j + 1, n', M', P, by have := HJL.out; omega, HN1.out, by have := HN2.out; omega, by go_num, hq, HS7.out, HT7.out, HB7.out⟩
            case measure => have := HJL.out; simp [intOf]; omega
          · have HB7 := Lib.hid (HBQ.out.trans hb7)
            have HS7 := Lib.hid hS7
            have HT7 := Lib.hid (HTU.out.keepR hk7)
            have HQ7 : Hid (q0 ≤ (if s.data.toList ∈ (x.d.map fun x => x.p.data.toList) then n' + 1 else M' s.data.toList)) := by
              refine Lib.hid ?_
              have h3 := HQN.out
              have h4 := HN1.out
              have h5 := hq.out
              split
              · omega
              · exact h5
            clear hb7 hS7 hk7 c1
            go_wp2_with fail
            go_roundw
            case rel => exact ⟨j + 1, n' + 1, _, (G7, x.d) :: P, by have := HJL.out; omega, by have := HN1.out; omega, by have := HN2.out; omega, by go_num, HQ7, HS7.out, HT7.out, HB7.out⟩
            case measure => have := HJL.out; simp [intOf]; omega
        · obtain rfl : j = m.length := by omega
          clear hbw
          have HS8 := Lib.hid (HS.out.below HBQ.out)
          have HAT := Lib.hid (HS8.out.atR (r := n) (Nat.le_refl _) (by have := HN25.out; omega))
          have HN1 := Lib.hid hn1
          have HN2 := Lib.hid (show n' ≤ 50 by have := HN25.out; omega)
          clear h1 hj hn1 hn2
          go_wp2_with fail
          refine HAT.out.mono ?_
          rintro e w6b ⟨v, fv, rfl, htv, hiv, hlv, hb8⟩
          obtain ⟨Av, cv, rfl⟩ := htv.own.slice
          have HTV := Lib.hid htv
          have HIV := Lib.hid hiv
          have HLV := Lib.hid hlv
          have HTU8 := Lib.hid (HTU.out.below hb8)
          have HB8 := Lib.hid (HBQ.out.trans (hb8.mono HBQ.out.size))
          have HC8 := Lib.hid (HSC.out.below hb8)
          have HAT2 := Lib.hid (HC8.out.atR (r := n) HN1.out (by have := HN2.out; omega))
          clear htv hiv hlv hb8 HAT
          go_wp2_with fail
          refine HAT2.out.mono ?_
          rintro e w7b ⟨v, fw, rfl, htw, hiw, hlw, hb9⟩
          obtain ⟨Aw, cw, rfl⟩ := htw.own.slice
          have heq1 : flsX fu = flsX fv := isTree_unique HIU.out HIV.out fun _ => rfl
          have heq2 : flsX fu = flsX fw := isTree_unique HIU.out hiw fun s => (valR_behind s P H (by have := HNUM.out; omega)).symm
          have HTU9 := Lib.hid (HTU8.out.below hb9)
          have HTV9 := Lib.hid (HTV.out.below hb9)
          have HTW := Lib.hid htw
          have HB9 := Lib.hid (HB8.out.trans (hb9.mono HB8.out.size))
          have HS9 := Lib.hid (HS.out.below HB9.out)
          have HC9 := Lib.hid (HC8.out.below hb9)
          have HS1 := Lib.hid (fun (W : World) (hW : Below w7b.heap.size w7b W) => by
            have h := refsameG_any fu fv Au Av cu cv W (HTU9.out.below hW).tree.2 (HTV9.out.below hW).tree.2 HLU.out HLV.out
            rw [decide_eq_true heq1] at h
            exact h)
          have HS2 := Lib.hid (fun (W : World) (hW : Below w7b.heap.size w7b W) => by
            have h := refsameG_any fu fw Au Aw cu cw W (HTU9.out.below hW).tree.2 (HTW.out.below hW).tree.2 HLU.out hlw
            rw [decide_eq_true heq2] at h
            exact h)
          have HHD := Lib.hid HS9.out.head
          have HLA := Lib.hid (HS9.out.last s HSZ.out)
          rw [HQ0.out] at HLA
          clear htw hiw hlw hb9 heq1 heq2 HAT2
          go_wp2_with fail
          refine HHD.out.mono ?_
          rintro e w9 ⟨rfl, hw9⟩
          have hw9 := hw9.symm
          subst hw9
          go_wp2_with fail
          refine HLA.out.mono ?_
          rintro e w9 ⟨rfl, hw9⟩
          have hw9 := hw9.symm
          subst hw9
          go_wp2_with fail
          refine (HS1.out w7b (Below.refl _ _)).mono ?_
          rintro e w10 ⟨rfl, hb10⟩
          have HB10 := Lib.hid hb10
          clear hb10
          go_wp2_with fail
          refine (HS2.out w10 HB10.out).mono ?_
          rintro e w11 ⟨rfl, hb11⟩
          have hb11 := HB10.out.trans (hb11.mono HB10.out.size)
          have HB11 := Lib.hid (HB9.out.trans (hb11.mono HB9.out.size))
          have HC11 := Lib.hid (HC9.out.below hb11)
          have HHC := Lib.hid HC11.out.head
          have HLC := Lib.hid (HC11.out.last s HSZ.out)
          have kn : (n : Int) ≤ (n' : Int) := by have := HN1.out; omega
          have hq' := hq.out
          obtain ⟨q1, hq1⟩ : ∃ q, M' s.data.toList = q := ⟨_, rfl⟩
          rw [hq1] at HLC hq'
          have kq : (q0 : Int) ≤ (q1 : Int) := by omega
          clear hb11 hq' hq1
          go_wp2_with fail
          refine HHC.out.mono ?_
          rintro e w9 ⟨rfl, hw9⟩
          have hw9 := hw9.symm
          subst hw9
          go_wp2_with fail
          refine HLC.out.mono ?_
          rintro e w9 ⟨rfl, hw9⟩
          have hw9 := hw9.symm
          subst hw9
          have HB12 := Lib.hid (HBR.out.trans (HB11.out.mono HBR.out.size))
          go_wp2_with fail
          refine (HKN.out w11 HB12.out).mono ?_
          rintro e w12 ⟨rfl, hb12⟩
          have HB13 := Lib.hid (HB12.out.trans (hb12.mono HB12.out.size))
          clear hb12
          go_wp2_with fail
          go_ret
          exact ⟨rfl, HB13.out⟩
end Go.Proofs.YtkhkjgghnicipaaDoor
