/-
  The walk of BuildDeps.
-/
import Derived.Test.YtlampcelmlejbaaDoorBdUse
import Derived.Test.YtlampcelmlejbaaDoorBdDeps
import Derived.Test.YtlampcelmlejbaaDoorBdNamed
import Derived.Laws.IdiomStrings
import Derived.BigQuiet
import Derived.IntWalk
namespace Go.Proofs.YtlampcelmlejbaaDoor
open Go Go.RowKit Go.Shelf Go.Proofs
attribute [local go_sem] Oper.semAt_some

def BGetPost (w : World) (l : List FX) (s : ByteArray) (e : Ending) (w' : World) : Prop := ∃ (A : Option Addr) (n c : Nat) (b : Bool), e = .returned (.tuple #[.slice A n c, .bool b]) ∧ hasT (flsX l) s.data.toList = b ∧ Below w.heap.size w w'
set_option maxHeartbeats 1000000 in
theorem bget_any (l : List FX) (A : Option Addr) (c : Nat) (s : ByteArray) (w : World) (h : TreeAt w A c l) (hl : l.length ≤ 100000) :
    Calls Tryd.prog 19 #[.slice A l.length c, .string s] w (BGetPost w l s) := by
  have HF := Lib.hid (reffind_any l A c s w h hl)
  rcases place_get l s with ⟨h1, h2, h9⟩ | ⟨k, x, h1, h2, h3, h9⟩
  · rw [h1] at HF
    have H9 := Lib.hid h9
    clear h1 h2 h h9
    go_enter Tryd.func19, Tryd.ntmps19
    go_wp2_with fail
    refine HF.out.mono ?_
    rintro e w1 ⟨rfl, hb1⟩
    go_wp2_with fail
    go_ret2
    exact ⟨_, _, _, _, rfl, H9.out, hb1⟩
  · rw [h1] at HF
    have hkl := (List.getElem?_eq_some_iff.1 h2).1
    obtain ⟨g, o, rfl, hr⟩ := h.row (by omega)
    have c2 := (hr k x h2).2
    have hgl : g < w.heap.size := World.block_lt_of_cell? w (a := ⟨g, o + k * 2 + 1, none⟩) c2
    have k0 : ¬ (k : Int) < 0 := by omega
    have k1 : (k : Int) < (l.length : Int) := by omega
    have H9 := Lib.hid h9
    clear h1 h2 h3 hr h h9
    go_enter Tryd.func19, Tryd.ntmps19
    go_wp2_with fail
    refine HF.out.mono ?_
    rintro e w1 ⟨rfl, hb1⟩
    have e2 : w1.cell? ⟨g, o + k * 2 + 1, none⟩ = some (.slice x.A x.b.length x.c) := (hb1.cell (p := ⟨g, o + k * 2 + 1, none⟩) hgl).trans c2
    clear c2
    go_wp2_with fail
    go_ret2
    exact ⟨_, _, _, _, rfl, H9.out, hb1⟩
theorem named_len {n : Bs} (h : namedT n = true) : n.length ≤ 20 := by
  unfold namedT at h
  simp only [Bool.and_eq_true, decide_eq_true_eq] at h
  omega
theorem conv_new (W : World) (E : ByteArray) (n : Nat) (hn : E.size = n) : ∃ cap W', (convert 9 44 (.string E)).run Tryd.prog W = .ok (.slice (some ⟨W.heap.size, 0, none⟩) n cap) W' ∧ BytesAt W' (some ⟨W.heap.size, 0, none⟩) E.data.toList ∧ Below W.heap.size W W' := by
  have h := run_bytes_of_string (P := Tryd.prog) W 9 44 5 E Tryd.underlying9 Tryd.underlying44 Tryd.underlying5
  rw [hn] at h
  refine ⟨_, _, h, fun hl => ⟨W.heap.size, 0, rfl, fun i hi => ?_⟩, (Below.refl _ _).drew.alloc (Nat.le_refl _) _⟩
  have hb := heap_alloc_new W.drew (.cells (bytesRow E (grownCap W n 0 5)) 5 ((bytesRow E (grownCap W n 0 5)).size, (bytesRow E (grownCap W n 0 5)).size + 1))
  have hl2 : E.data.toList.length = E.size := Array.length_toList
  have hiE : i < E.data.size := by have : i < E.data.toList.length := hi; simpa using this
  refine (cell_of_row _ W.heap.size (0 + i) _ _ _ hb).trans ?_
  rw [Nat.zero_add]
  unfold bytesRow
  rw [Array.getElem?_append_left (by simpa using hiE), Array.getElem?_map, Array.getElem?_eq_getElem hiE]
  have e : (numsB E.data.toList)[i]? = some ((E.data[i].toNat : Nat) : Int) := by
    unfold numsB
    rw [List.getElem?_map, Array.getElem?_toList, Array.getElem?_eq_getElem hiE]; rfl
  rw [List.getD, e]
  rfl

set_option maxRecDepth 100000 in
set_option maxHeartbeats 16000000 in
theorem bdeps_law (t : List FX) (A : Option Addr) (c : Nat) (nx ny : ByteArray) (w : World) (h : TreeAt w A c t) (hz : BigX t) (hx : nx.size ≤ 1000000000000000) (hy : ny.size ≤ 1000000000000000) (hm : MaxOk w) :
    Calls Tryd.prog 6 #[.slice A t.length c, .string nx, .string ny] w (BdB true w) := by
  have hcap : t.length ≤ maxLen := Nat.le_trans h.cap h.capm
  unfold maxLen at hcap
  have HK := Lib.hid (fun (W : World) (hb : Below w.heap.size w W) => bknown_any W (hm.below hb))
  have HMX := Lib.hid (fun (W : World) (hb : Below w.heap.size w W) => hm.below hb)
  have HT := Lib.hid h
  have HZ := Lib.hid hz
  clear h hm hz
  by_cases h30 : 30 < t.length
  · have g1 : (30 : Int) < (t.length : Int) := by omega
    go_enter Tryd.func6, Tryd.ntmps6
    go_wp2_with fail
    refine (HK.out _ (Below.refl _ _)).mono ?_
    rintro e y ⟨rfl, hb⟩
    go_wp2_with fail
    go_ret
    exact ⟨rfl, hb⟩
  · have g1 : ¬ (30 : Int) < (t.length : Int) := by omega
    have HL := reflong_any t A c w HT.out (by omega) HZ.out
    obtain ⟨q, hq⟩ : ∃ q, longN t = q := ⟨_, rfl⟩
    rw [hq] at HL
    have HL := Lib.hid HL
    have HQ := Lib.hid hq
    clear hq
    obtain ⟨N, hN⟩ : ∃ N, t.length = N := ⟨_, rfl⟩
    rw [hN] at HL h30 g1 hcap ⊢
    have HN := Lib.hid hN
    clear hN
    have HNX := Lib.hid (fun W => bnamed_any nx W (by unfold maxLen; omega))
    have HNY := Lib.hid (fun W => bnamed_any ny W (by unfold maxLen; omega))
    by_cases h20 : 2000 < q
    · have g2 : (2000 : Int) < (q : Int) := by omega
      go_enter Tryd.func6, Tryd.ntmps6
      go_wp2_with fail
      refine HL.out.mono ?_
      rintro e w2 ⟨rfl, hb2⟩
      have HB2 := Lib.hid hb2
      clear hb2
      go_wp2_with fail
      refine (HK.out _ HB2.out).mono ?_
      rintro e y ⟨rfl, hb⟩
      go_wp2_with fail
      go_ret
      exact ⟨rfl, HB2.out.trans (hb.mono HB2.out.size)⟩
    · have g2 : ¬ (2000 : Int) < (q : Int) := by omega
      cases hnx : namedT nx.data.toList with
      | false =>
        rw [hnx] at HNX
        go_enter Tryd.func6, Tryd.ntmps6
        go_wp2_with fail
        refine HL.out.mono ?_
        rintro e w2 ⟨rfl, hb2⟩
        have HB2 := Lib.hid hb2
        clear hb2
        go_wp2_with fail
        refine (HNX.out w2).mono ?_
        rintro e w2x ⟨rfl, hw⟩
        have hw := hw.symm
        subst hw
        go_wp2_with fail
        refine (HK.out _ HB2.out).mono ?_
        rintro e y ⟨rfl, hb⟩
        go_wp2_with fail
        go_ret
        exact ⟨rfl, HB2.out.trans (hb.mono HB2.out.size)⟩
      | true =>
        rw [hnx] at HNX
        have HX := Lib.hid hnx
        clear hnx
        cases hny : namedT ny.data.toList with
        | false =>
          rw [hny] at HNY
          go_enter Tryd.func6, Tryd.ntmps6
          go_wp2_with fail
          refine HL.out.mono ?_
          rintro e w2 ⟨rfl, hb2⟩
          have HB2 := Lib.hid hb2
          clear hb2
          go_wp2_with fail
          refine (HNX.out w2).mono ?_
          rintro e w2x ⟨rfl, hw⟩
          have hw := hw.symm
          subst hw
          go_wp2_with fail
          refine (HNY.out w2).mono ?_
          rintro e w2x ⟨rfl, hw⟩
          have hw := hw.symm
          subst hw
          go_wp2_with fail
          refine (HK.out _ HB2.out).mono ?_
          rintro e y ⟨rfl, hb⟩
          go_wp2_with fail
          go_ret
          exact ⟨rfl, HB2.out.trans (hb.mono HB2.out.size)⟩
        | true =>
          rw [hny] at HNY
          have HY := Lib.hid hny
          clear hny
          by_cases hne : nx = ny
          · have s1 : (nx.toList == ny.toList) = true := by rw [hne]; exact beq_self_eq_true _
            clear hne
            go_enter Tryd.func6, Tryd.ntmps6
            go_wp2_with fail
            refine HL.out.mono ?_
            rintro e w2 ⟨rfl, hb2⟩
            have HB2 := Lib.hid hb2
            clear hb2
            go_wp2_with fail
            refine (HNX.out w2).mono ?_
            rintro e w2x ⟨rfl, hw⟩
            have hw := hw.symm
            subst hw
            go_wp2_with fail
            refine (HNY.out w2).mono ?_
            rintro e w2x ⟨rfl, hw⟩
            have hw := hw.symm
            subst hw
            go_wp2_with fail
            refine (HK.out _ HB2.out).mono ?_
            rintro e y ⟨rfl, hb⟩
            go_wp2_with fail
            go_ret
            exact ⟨rfl, HB2.out.trans (hb.mono HB2.out.size)⟩
          · have s1 : (nx.toList == ny.toList) = false := by
              rw [beq_eq_false_iff_ne, ByteArray.toList_eq, ByteArray.toList_eq]
              exact fun e => hne (by cases nx; cases ny; congr 1; exact Array.toList_inj.1 e)
            have HNE := Lib.hid (show nx.data.toList ≠ ny.data.toList from fun e => hne (by cases nx; cases ny; congr 1; exact Array.toList_inj.1 e))
            clear hne
            go_enter Tryd.func6, Tryd.ntmps6
            go_wp2_with fail
            refine HL.out.mono ?_
            rintro e w2 ⟨rfl, hb2⟩
            have HB2 := Lib.hid hb2
            clear hb2
            go_wp2_with fail
            refine (HNX.out w2).mono ?_
            rintro e w2x ⟨rfl, hw⟩
            have hw := hw.symm
            subst hw
            go_wp2_with fail
            refine (HNY.out w2).mono ?_
            rintro e w2x ⟨rfl, hw⟩
            have hw := hw.symm
            subst hw
            go_wp2_with fail
            have hsm : ∀ f ∈ t, f.p.size ≤ 4000 ∧ f.b.length ≤ 4000 := long_small (by rw [HQ.out]; omega)
            have HSM := Lib.hid hsm
            have HA1 := ball_any A c t w2 (HT.out.below HB2.out) (by rw [HN.out]; omega) hsm (HMX.out w2 HB2.out)
            obtain ⟨PP, hPP⟩ : ∃ PP, allT (flsX t) = PP := ⟨_, rfl⟩
            rw [hPP, HN.out] at HA1
            have HPP := Lib.hid hPP
            obtain ⟨PE, PL⟩ := PP
            have HA1 := Lib.hid HA1
            clear hPP hsm
            try go_wp2_with fail
            refine HA1.out.mono ?_
            rintro e w3 ⟨A3, c3, l3, rfl, hat3, hl3, hb3⟩
            have HB3 := Lib.hid (HB2.out.trans (hb3.mono HB2.out.size))
            have HAT3 := Lib.hid hat3
            have HL3 := Lib.hid (show tgsX l3 = PL from hl3)
            obtain ⟨n3, hn3⟩ : ∃ n3, l3.length = n3 := ⟨_, rfl⟩
            rw [hn3]
            have HN3 := Lib.hid hn3
            have HG := bget_any t A c (ByteArray.mk #[122, 122, 47, 66, 85, 73, 76, 68]) w3 (HT.out.below HB3.out) (by rw [HN.out]; omega)
            rw [HN.out] at HG
            have HG := Lib.hid HG
            clear hb3 hat3 hl3 hn3 HA1
            go_wp2_with fail
            refine HG.out.mono ?_
            rintro e w4 ⟨A4, n4, c4, b4, rfl, hhas, hb4⟩
            have HB4 := Lib.hid (HB3.out.trans (hb4.mono HB3.out.size))
            have HAT4 := Lib.hid (HAT3.out.below hb4)
            have HHAS := Lib.hid hhas
            clear hb4 hhas HG HAT3
            by_cases hp0 : PE = 0
            · subst hp0
              cases b4 with
              | true =>
                go_wp2_with fail
                refine (HK.out _ HB4.out).mono ?_
                rintro e y ⟨rfl, hb⟩
                go_wp2_with fail
                go_ret
                exact ⟨rfl, HB4.out.trans (hb.mono HB4.out.size)⟩
              | false =>
                have hbx := named_len HX.out
                have hby := named_len HY.out
                have e1 : nx.data.toList.length = nx.size := Array.length_toList
                have e2 : ny.data.toList.length = ny.size := Array.length_toList
                have hx20 : nx.size ≤ 20 := by omega
                have hy20 : ny.size ≤ 20 := by omega
                clear hbx hby e1 e2
                obtain ⟨nuu, hnuu⟩ : ∃ n, ((((ByteArray.mk #[116, 97, 114, 103, 101, 116, 32] ++ nx) ++ ByteArray.mk #[10, 100, 101, 112, 32, 58]) ++ ny) ++ ByteArray.mk #[10]).size = n := ⟨_, rfl⟩
                have huu : nuu ≤ 60 := by
                  rw [← hnuu]
                  simp only [ByteArray.size_append]
                  have a1 : (ByteArray.mk #[116, 97, 114, 103, 101, 116, 32]).size = 7 := rfl
                  have a2 : (ByteArray.mk #[10, 100, 101, 112, 32, 58]).size = 6 := rfl
                  have a3 : (ByteArray.mk #[10]).size = 1 := rfl
                  omega
                obtain ⟨nuv, hnuv⟩ : ∃ n, ((((ByteArray.mk #[116, 97, 114, 103, 101, 116, 32] ++ nx) ++ ByteArray.mk #[10, 100, 101, 112, 32, 58]) ++ ny) ++ ByteArray.mk #[10, 116, 97, 114, 103, 101, 116, 32] ++ ny).size = n := ⟨_, rfl⟩
                have huv : nuv ≤ 90 := by
                  rw [← hnuv]
                  simp only [ByteArray.size_append]
                  have a1 : (ByteArray.mk #[116, 97, 114, 103, 101, 116, 32]).size = 7 := rfl
                  have a2 : (ByteArray.mk #[10, 100, 101, 112, 32, 58]).size = 6 := rfl
                  have a3 : (ByteArray.mk #[10, 116, 97, 114, 103, 101, 116, 32]).size = 8 := rfl
                  omega
                have HNUV := Lib.hid hnuv
                obtain ⟨f1, f2, f3, f4, f5⟩ := allT_deps HX.out HY.out HNE.out (t := flsX t) HHAS.out (by rw [HPP.out])
                have F1 := Lib.hid f1
                have F2 := Lib.hid f2
                have F3 := Lib.hid f3
                have F4 := Lib.hid f4
                have F5 := Lib.hid f5
                clear f1 f2 f3 f4 f5 hnuv
                have hsu : ((((ByteArray.mk #[116, 97, 114, 103, 101, 116, 32] ++ nx) ++ ByteArray.mk #[10, 100, 101, 112, 32, 58]) ++ ny) ++ ByteArray.mk #[10]).size = nuu := hnuu
                obtain ⟨capu, W5u, hcu, hbyu, hb5u⟩ := conv_new w4 ((((ByteArray.mk #[116, 97, 114, 103, 101, 116, 32] ++ nx) ++ ByteArray.mk #[10, 100, 101, 112, 32, 58]) ++ ny) ++ ByteArray.mk #[10]) nuu hsu
                have hElu : ((((ByteArray.mk #[116, 97, 114, 103, 101, 116, 32] ++ nx) ++ ByteArray.mk #[10, 100, 101, 112, 32, 58]) ++ ny) ++ ByteArray.mk #[10]).data.toList.length = nuu := by rw [Array.length_toList]; exact hsu
                have HB5u := Lib.hid (HB4.out.trans (hb5u.mono HB4.out.size))
                have HPTu := refput_any t A c ⟨ByteArray.mk #[122, 122, 47, 66, 85, 73, 76, 68], some ⟨w4.heap.size, 0, none⟩, capu, ((((ByteArray.mk #[116, 97, 114, 103, 101, 116, 32] ++ nx) ++ ByteArray.mk #[10, 100, 101, 112, 32, 58]) ++ ny) ++ ByteArray.mk #[10]).data.toList⟩ W5u (HT.out.below HB5u.out) (by rw [HN.out]; omega)
                rw [HN.out, hElu] at HPTu
                have HPTu := Lib.hid HPTu
                have HBYu := Lib.hid hbyu
                have HELu := Lib.hid hElu
                have H54u := Lib.hid hb5u
                clear hsu hbyu hb5u hElu hnuu
                go_wp2_with fail
                refine HPTu.out.mono ?_
                rintro e w6u ⟨v6u, rfl, hown6, hb6⟩
                obtain ⟨A6u, c6u, rfl, hat6⟩ := tree_own hown6 (fun x hx => by
                  rcases putX_sub x hx with rfl | hx
                  · exact (HBYu.out.below hb6)
                  · exact (HT.out.below (HB5u.out.trans (hb6.mono HB5u.out.size))).files x hx)
                have HB6u := Lib.hid (HB5u.out.trans (hb6.mono HB5u.out.size))
                have H65u := Lib.hid (H54u.out.trans (hb6.mono H54u.out.size))
                obtain ⟨L6u, hL6⟩ : ∃ L6, putX t ⟨ByteArray.mk #[122, 122, 47, 66, 85, 73, 76, 68], some ⟨w4.heap.size, 0, none⟩, capu, ((((ByteArray.mk #[116, 97, 114, 103, 101, 116, 32] ++ nx) ++ ByteArray.mk #[10, 100, 101, 112, 32, 58]) ++ ny) ++ ByteArray.mk #[10]).data.toList⟩ = L6 := ⟨_, rfl⟩
                have hlen6 : L6u.length ≤ 31 := by
                  have := putX_le t (⟨ByteArray.mk #[122, 122, 47, 66, 85, 73, 76, 68], some ⟨w4.heap.size, 0, none⟩, capu, ((((ByteArray.mk #[116, 97, 114, 103, 101, 116, 32] ++ nx) ++ ByteArray.mk #[10, 100, 101, 112, 32, 58]) ++ ny) ++ ByteArray.mk #[10]).data.toList⟩ : FX)
                  rw [hL6, HN.out] at this
                  omega
                have hsm6 : ∀ g ∈ L6u, g.p.size ≤ 4000 ∧ g.b.length ≤ 4000 := fun g hg => by
                  rw [← hL6] at hg
                  rcases putX_sub g hg with rfl | hg
                  · refine ⟨by show (8 : Nat) ≤ 4000; omega, ?_⟩
                    show ((((ByteArray.mk #[116, 97, 114, 103, 101, 116, 32] ++ nx) ++ ByteArray.mk #[10, 100, 101, 112, 32, 58]) ++ ny) ++ ByteArray.mk #[10]).data.toList.length ≤ 4000
                    rw [HELu.out]; omega
                  · exact HSM.out g hg
                have hfl6 : flsX L6u = putT (flsX t) (zzB, oneU nx.data.toList ny.data.toList) := by
                  rw [← hL6, putX_fls]
                  congr 1
                  show ((ByteArray.mk #[122, 122, 47, 66, 85, 73, 76, 68]).data.toList, ((((ByteArray.mk #[116, 97, 114, 103, 101, 116, 32] ++ nx) ++ ByteArray.mk #[10, 100, 101, 112, 32, 58]) ++ ny) ++ ByteArray.mk #[10]).data.toList) = _
                  congr 1
                  simp [ByteArray.data_append, oneU, tline, dline, tgtW, depW]
                rw [hL6] at hat6 ⊢
                have HAu := ball_any A6u c6u L6u w6u hat6 (by omega) hsm6 (HMX.out w6u HB6u.out)
                rw [hfl6] at HAu
                obtain ⟨Qu, hQu⟩ : ∃ PP, allT (putT (flsX t) (zzB, oneU nx.data.toList ny.data.toList)) = PP := ⟨_, rfl⟩
                rw [hQu] at HAu
                have HQu := Lib.hid hQu
                obtain ⟨QEu, QLu⟩ := Qu
                obtain ⟨n6u, hn6u⟩ : ∃ n6, L6u.length = n6 := ⟨_, rfl⟩
                rw [hn6u] at HAu ⊢
                have HAu := Lib.hid HAu
                clear hown6 hb6 hat6 hlen6 hsm6 hfl6 hQu hn6u hL6 HPTu hcu
                go_wp2_with fail
                refine HAu.out.mono ?_
                rintro e w8u ⟨A8u, c8u, l8u, rfl, hat8, hl8, hb8⟩
                have HB8u := Lib.hid (HB6u.out.trans (hb8.mono HB6u.out.size))
                have H84u := Lib.hid (H65u.out.trans (hb8.mono H65u.out.size))
                have HAT8u := Lib.hid hat8
                have HL8u := Lib.hid (show tgsX l8u = QLu from hl8)
                obtain ⟨n8u, hn8u⟩ : ∃ n8, l8u.length = n8 := ⟨_, rfl⟩
                rw [hn8u]
                have HN8u := Lib.hid hn8u
                clear hat8 hl8 hb8 hn8u HAu
                have HAT9 := Lib.hid (HAT4.out.below H84u.out)
                have hnuv := HNUV.out
                have hsv : ((((ByteArray.mk #[116, 97, 114, 103, 101, 116, 32] ++ nx) ++ ByteArray.mk #[10, 100, 101, 112, 32, 58]) ++ ny) ++ ByteArray.mk #[10, 116, 97, 114, 103, 101, 116, 32] ++ ny).size = nuv := hnuv
                obtain ⟨capv, W5v, hcu, hbyv, hb5v⟩ := conv_new w8u ((((ByteArray.mk #[116, 97, 114, 103, 101, 116, 32] ++ nx) ++ ByteArray.mk #[10, 100, 101, 112, 32, 58]) ++ ny) ++ ByteArray.mk #[10, 116, 97, 114, 103, 101, 116, 32] ++ ny) nuv hsv
                have hElv : ((((ByteArray.mk #[116, 97, 114, 103, 101, 116, 32] ++ nx) ++ ByteArray.mk #[10, 100, 101, 112, 32, 58]) ++ ny) ++ ByteArray.mk #[10, 116, 97, 114, 103, 101, 116, 32] ++ ny).data.toList.length = nuv := by rw [Array.length_toList]; exact hsv
                have HB5v := Lib.hid (HB8u.out.trans (hb5v.mono HB8u.out.size))
                have HPTv := refput_any t A c ⟨ByteArray.mk #[122, 122, 47, 66, 85, 73, 76, 68], some ⟨w8u.heap.size, 0, none⟩, capv, ((((ByteArray.mk #[116, 97, 114, 103, 101, 116, 32] ++ nx) ++ ByteArray.mk #[10, 100, 101, 112, 32, 58]) ++ ny) ++ ByteArray.mk #[10, 116, 97, 114, 103, 101, 116, 32] ++ ny).data.toList⟩ W5v (HT.out.below HB5v.out) (by rw [HN.out]; omega)
                rw [HN.out, hElv] at HPTv
                have HPTv := Lib.hid HPTv
                have HBYv := Lib.hid hbyv
                have HELv := Lib.hid hElv
                have H54v := Lib.hid hb5v
                clear hsv hbyv hb5v hElv hnuv
                go_wp2_with fail
                refine HPTv.out.mono ?_
                rintro e w6v ⟨v6v, rfl, hown6, hb6⟩
                obtain ⟨A6v, c6v, rfl, hat6⟩ := tree_own hown6 (fun x hx => by
                  rcases putX_sub x hx with rfl | hx
                  · exact (HBYv.out.below hb6)
                  · exact (HT.out.below (HB5v.out.trans (hb6.mono HB5v.out.size))).files x hx)
                have HB6v := Lib.hid (HB5v.out.trans (hb6.mono HB5v.out.size))
                have H65v := Lib.hid (H54v.out.trans (hb6.mono H54v.out.size))
                obtain ⟨L6v, hL6⟩ : ∃ L6, putX t ⟨ByteArray.mk #[122, 122, 47, 66, 85, 73, 76, 68], some ⟨w8u.heap.size, 0, none⟩, capv, ((((ByteArray.mk #[116, 97, 114, 103, 101, 116, 32] ++ nx) ++ ByteArray.mk #[10, 100, 101, 112, 32, 58]) ++ ny) ++ ByteArray.mk #[10, 116, 97, 114, 103, 101, 116, 32] ++ ny).data.toList⟩ = L6 := ⟨_, rfl⟩
                have hlen6 : L6v.length ≤ 31 := by
                  have := putX_le t (⟨ByteArray.mk #[122, 122, 47, 66, 85, 73, 76, 68], some ⟨w8u.heap.size, 0, none⟩, capv, ((((ByteArray.mk #[116, 97, 114, 103, 101, 116, 32] ++ nx) ++ ByteArray.mk #[10, 100, 101, 112, 32, 58]) ++ ny) ++ ByteArray.mk #[10, 116, 97, 114, 103, 101, 116, 32] ++ ny).data.toList⟩ : FX)
                  rw [hL6, HN.out] at this
                  omega
                have hsm6 : ∀ g ∈ L6v, g.p.size ≤ 4000 ∧ g.b.length ≤ 4000 := fun g hg => by
                  rw [← hL6] at hg
                  rcases putX_sub g hg with rfl | hg
                  · refine ⟨by show (8 : Nat) ≤ 4000; omega, ?_⟩
                    show ((((ByteArray.mk #[116, 97, 114, 103, 101, 116, 32] ++ nx) ++ ByteArray.mk #[10, 100, 101, 112, 32, 58]) ++ ny) ++ ByteArray.mk #[10, 116, 97, 114, 103, 101, 116, 32] ++ ny).data.toList.length ≤ 4000
                    rw [HELv.out]; omega
                  · exact HSM.out g hg
                have hfl6 : flsX L6v = putT (flsX t) (zzB, twoV nx.data.toList ny.data.toList) := by
                  rw [← hL6, putX_fls]
                  congr 1
                  show ((ByteArray.mk #[122, 122, 47, 66, 85, 73, 76, 68]).data.toList, ((((ByteArray.mk #[116, 97, 114, 103, 101, 116, 32] ++ nx) ++ ByteArray.mk #[10, 100, 101, 112, 32, 58]) ++ ny) ++ ByteArray.mk #[10, 116, 97, 114, 103, 101, 116, 32] ++ ny).data.toList) = _
                  congr 1
                  simp [ByteArray.data_append, twoV, tline, dline, tgtW, depW]
                rw [hL6] at hat6 ⊢
                have HAv := ball_any A6v c6v L6v w6v hat6 (by omega) hsm6 (HMX.out w6v HB6v.out)
                rw [hfl6] at HAv
                obtain ⟨Qv, hQv⟩ : ∃ PP, allT (putT (flsX t) (zzB, twoV nx.data.toList ny.data.toList)) = PP := ⟨_, rfl⟩
                rw [hQv] at HAv
                have HQv := Lib.hid hQv
                obtain ⟨QEv, QLv⟩ := Qv
                obtain ⟨n6v, hn6v⟩ : ∃ n6, L6v.length = n6 := ⟨_, rfl⟩
                rw [hn6v] at HAv ⊢
                have HAv := Lib.hid HAv
                clear hown6 hb6 hat6 hlen6 hsm6 hfl6 hQv hn6v hL6 HPTv hcu
                go_wp2_with fail
                refine HAv.out.mono ?_
                rintro e w8v ⟨A8v, c8v, l8v, rfl, hat8, hl8, hb8⟩
                have HB8v := Lib.hid (HB6v.out.trans (hb8.mono HB6v.out.size))
                have H84v := Lib.hid (H65v.out.trans (hb8.mono H65v.out.size))
                have HAT8v := Lib.hid hat8
                have HL8v := Lib.hid (show tgsX l8v = QLv from hl8)
                obtain ⟨n8v, hn8v⟩ : ∃ n8, l8v.length = n8 := ⟨_, rfl⟩
                rw [hn8v]
                have HN8v := Lib.hid hn8v
                clear hat8 hl8 hb8 hn8v HAv
                have HAT10 := Lib.hid (HAT9.out.below H84v.out)
                have qu : QEu = 13 := by have := F1.out; rw [HQu.out] at this; exact this
                have qv : QEv = 0 := by have := F3.out; rw [HQv.out] at this; exact this
                have qn : n8v = n3 + 2 := by
                  have := F4.out
                  rw [HQv.out, HPP.out] at this
                  rw [← HN8v.out, ← HN3.out, ← tgsX_length, ← tgsX_length, HL8v.out, HL3.out]
                  exact this
                subst qu
                subst qv
                subst qn
                have HP1 := bplace_any l3 A3 c3 (ByteArray.mk #[122, 122, 58] ++ ny) w8v HAT10.out
                have z1 : placeT (tgsX l3) (ByteArray.mk #[122, 122, 58] ++ ny).data.toList = -1 := by
                  have := F2.out
                  rw [HPP.out] at this
                  rw [HL3.out]
                  simpa [ByteArray.data_append, zzD] using this
                rw [z1, HN3.out] at HP1
                have HP1 := Lib.hid HP1
                have HP2 := Lib.hid (fun (W : World) (h : TgsAt W A8v c8v l8v) => by
                  have := bplace_any l8v A8v c8v (ByteArray.mk #[122, 122, 58] ++ nx) W h
                  rw [HN8v.out] at this
                  exact this)
                have z2 : 0 ≤ placeT (tgsX l8v) (ByteArray.mk #[122, 122, 58] ++ nx).data.toList := by
                  have := F5.out
                  rw [HQv.out] at this
                  rw [HL8v.out]
                  simpa [ByteArray.data_append, zzD] using this
                obtain ⟨p2, hp2⟩ : ∃ p, placeT (tgsX l8v) (ByteArray.mk #[122, 122, 58] ++ nx).data.toList = p := ⟨_, rfl⟩
                rw [hp2] at z2 HP2
                clear z1 hp2
                have hn100 : n3 + 2 ≤ 9223372036854775807 := by
                  have h1 := HAT8v.out.cap
                  have h2 := HAT8v.out.capm
                  unfold maxLen at h2
                  have := HN8v.out
                  omega
                have n2 : ((n3 + 2 : Nat) : Int) = (n3 : Int) + 2 := by omega
                have n3w : IntKind.i64.wrap ((n3 : Int) + 2) = (n3 : Int) + 2 := IntWalk.i64_in _ (by omega)
                go_wp2_with fail
                refine HP1.out.mono ?_
                rintro e w9 ⟨rfl, hb9⟩
                have HB9 := Lib.hid (HB8v.out.trans (hb9.mono HB8v.out.size))
                have HAT11 := Lib.hid (HAT8v.out.below hb9)
                clear hb9 HP1
                go_wp2_with fail
                refine (HP2.out w9 HAT11.out).mono ?_
                rintro e w10 ⟨rfl, hb10⟩
                have HB10 := Lib.hid (HB9.out.trans (hb10.mono HB9.out.size))
                clear hb10 HP2
                go_wp2_with fail
                refine (HK.out w10 HB10.out).mono ?_
                rintro e w11 ⟨rfl, hb11⟩
                have HB11 := Lib.hid (HB10.out.trans (hb11.mono HB10.out.size))
                clear hb11
                go_wp2_with fail
                go_ret
                exact ⟨rfl, HB11.out⟩
            · have p1 : (PE == 0) = false := beq_eq_false_iff_ne.2 hp0
              have p2 : (PE != 0) = true := bne_iff_ne.2 hp0
              clear hp0
              go_wp2_with fail
              refine (HK.out _ HB4.out).mono ?_
              rintro e y ⟨rfl, hb⟩
              go_wp2_with fail
              go_ret
              exact ⟨rfl, HB4.out.trans (hb.mono HB4.out.size)⟩
end Go.Proofs.YtlampcelmlejbaaDoor
