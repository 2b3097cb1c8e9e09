/-
  The law OwnersUp: directories without an OWNERS of their own, and those that ask no parent. · The claim of OwnersUp.
-/
import Derived.Test.YtkihgbggndikpaaGreatDoorOwLawM
import Derived.Test.YtkihgbggndikpaaGreatDoorOwFrame
namespace Go.Proofs.YtkihgbggndikpaaGreatDoor
open Go Go.RowKit Go.Shelf Go.Proofs
attribute [local go_sem] Oper.semAt_some

/-- Join of longer texts. -/
theorem pjoin2_any (d s : ByteArray) (w : World) (hd : d.size ≤ 1000000000000000) (hs : s.size ≤ 1000000000000000) :
    Calls Tryz.prog 25 #[.string d, .string s] w fun e w' => e = .returned (.string (mkB (join2 d.data.toList s.data.toList))) ∧ w' = w := by
  by_cases h1 : d.toList = []
  · have g1 : d.toList.isEmpty = true := by simp [h1]
    have hr : mkB (join2 d.data.toList s.data.toList) = s := by unfold join2; rw [← ByteArray.toList_eq d, if_pos h1, data_mkB]
    have HR := Lib.hid hr; clear hr h1
    go_enter Tryz.func25, Tryz.ntmps25
    go_wp2_with fail
    go_ret
    exact ⟨ret_string HR.out.symm, rfl⟩
  · have g1 : d.toList.isEmpty = false := by simpa using h1
    by_cases h2 : s.toList = []
    · have g2 : s.toList.isEmpty = true := by simp [h2]
      have hr : mkB (join2 d.data.toList s.data.toList) = d := by unfold join2; rw [← ByteArray.toList_eq d, ← ByteArray.toList_eq s, if_neg h1, if_pos h2, ByteArray.toList_eq, data_mkB]
      have HR := Lib.hid hr; clear hr h1 h2
      go_enter Tryz.func25, Tryz.ntmps25
      go_wp2_with fail
      go_ret
      exact ⟨ret_string HR.out.symm, rfl⟩
    · have g2 : s.toList.isEmpty = false := by simpa using h2
      have hr : mkB (join2 d.data.toList s.data.toList) = d ++ ⟨#[47]⟩ ++ s := by
        unfold join2; rw [← ByteArray.toList_eq d, ← ByteArray.toList_eq s, if_neg h1, if_neg h2, ByteArray.toList_eq, ByteArray.toList_eq]
        apply ByteArray.ext
        simp [mkB, ByteArray.data_append]
      have HR := Lib.hid hr; clear hr h1 h2
      go_enter Tryz.func25, Tryz.ntmps25
      go_wp2_with fail
      go_ret
      exact ⟨ret_string HR.out.symm, rfl⟩
theorem refputB_any (l : List FX) (A : Option Addr) (c : Nat) (f : FX) (W : World) (h : TreeAt W A c l) (hs : SmallX l) (hl : l.length ≤ 90000) (hP : f.p.size ≤ 1000000) (hB : f.b.length ≤ 1000000) (hat : BytesAt W f.A f.b) :
    Calls Tryz.prog 28 #[.slice A l.length c, .agg #[.string f.p, .slice f.A f.b.length f.c]] W fun e w' => ∃ A' c' l', e = .returned (.slice A' (List.length l') c') ∧ TreeAt w' A' c' l' ∧ SmallX l' ∧ flsX l' = putT (flsX l) f.fl ∧ l'.length ≤ l.length + 1 ∧ Below W.heap.size W w' := by
  refine (refput_any l A c f W h hl).mono ?_
  rintro e w' ⟨v', rfl, hown, hb⟩
  obtain ⟨A', c', rfl⟩ := hown.slice
  have hlen := putX_le l f
  refine ⟨A', c', putX l f, rfl, (hown.tree fun x hx => ?_).2, ⟨by omega, fun x hx => ?_⟩, putX_fls l _, hlen, hb⟩
  · rcases putX_sub x hx with rfl | hx
    · exact hat.below hb
    · exact (h.files x hx).below hb
  · rcases putX_sub x hx with rfl | hx
    · exact ⟨hP, hB⟩
    · exact hs.2 x hx
theorem refdropB_any (l : List FX) (A : Option Addr) (c : Nat) (s : ByteArray) (W : World) (h : TreeAt W A c l) (hs : SmallX l) :
    Calls Tryz.prog 29 #[.slice A l.length c, .string s] W fun e w' => ∃ A' c' l', e = .returned (.slice A' (List.length l') c') ∧ TreeAt w' A' c' l' ∧ SmallX l' ∧ flsX l' = dropT (flsX l) s.data.toList ∧ Below W.heap.size W w' := by
  refine (refdrop_any l A c s W h hs.1).mono ?_
  rintro e w' ⟨v', rfl, hown, hb⟩
  obtain ⟨A', c', rfl⟩ := hown.slice
  have hlen : (keepX l s).length ≤ l.length := List.length_filter_le _ _
  exact ⟨A', c', keepX l s, rfl, (hown.tree fun x hx => (h.files x (keepX_sub x hx)).below hb).2, ⟨Nat.le_trans hlen hs.1, fun x hx => hs.2 x (keepX_sub x hx)⟩, keepX_fls l s, hb⟩

theorem dir_le (s d : ByteArray) (h : dirL s.data.toList = d.data.toList) : d.size ≤ s.size := by
  have h1 : d.data.toList.length = d.size := Array.length_toList
  have h2 : s.data.toList.length = s.size := Array.length_toList
  by_cases e : s.data.toList = []
  · rw [e] at h
    have : dirL [] = [] := rfl
    rw [this] at h
    rw [← h] at h1
    simp at h1; omega
  · have := dir_shorter e
    rw [h] at this; omega

set_option maxRecDepth 100000 in
set_option maxHeartbeats 16000000 in
theorem oup_any (l : List FX) (A : Option Addr) (c : Nat) (dir name more : ByteArray) (w : World) (h : TreeAt w A c l) (hbig : BigX l) (hd : dir.size ≤ 1000000000000000) (hn : name.size ≤ 1000000000000000) (hs : more.size ≤ 1000000000000000) (hm : MaxOk w) (hT : TabsOk w) :
    Calls Tryz.prog 6 #[.slice A l.length c, .string dir, .string name, .string more] w (BoolPost true w) := by
  have HK := Lib.hid (fun (W : World) (hb : Below w.heap.size w W) => oknown_any W (hm.below hb) (hT.below (Nat.le_refl _) hb))
  have HJ := Lib.hid (pjoin2_any dir name w (by omega) (by omega))
  obtain ⟨S, hS⟩ : ∃ S, mkB (join2 dir.data.toList name.data.toList) = S := ⟨_, rfl⟩
  have HS : Hid (S.data.toList = join2 dir.data.toList name.data.toList) := by unfold Hid; rw [← hS, mkB_data]
  have HOF := Lib.hid (fun (l : List FX) (A : Option Addr) (c : Nat) (s : ByteArray) (W : World) (hb : Below w.heap.size w W) (h : TreeAt W A c l) (hsm : SmallX l) (h2 : s.size ≤ 1000000) => of_all l A c s W h hsm h2 (hm.below hb) (hT.below (Nat.le_refl _) hb))
  rw [hS] at HJ
  clear hS hm hT
  go_enter Tryz.func6, Tryz.ntmps6
  go_wp2_with fail
  refine HJ.out.mono ?_
  rintro e w' ⟨rfl, hw⟩
  have hw := hw.symm
  subst hw
  clear HJ
  by_cases h1 : 40 < l.length
  · have g1 : (40 : Int) < (l.length : Int) := by omega
    clear h hbig
    have HKN := Lib.hid (HK.out w (Below.refl w.heap.size w))
    go_wp2_with fail
    refine HKN.out.mono ?_
    rintro e w99 ⟨rfl, hb99⟩
    go_wp2_with fail
    go_ret
    exact ⟨rfl, (Below.refl w.heap.size w).trans (hb99.mono (Below.refl w.heap.size w).size)⟩
  · have g1 : ¬ (40 : Int) < (l.length : Int) := by omega
    have HL := Lib.hid (reflong_any l A c w h (by omega) hbig)
    by_cases h2 : 3000 < longN l
    · have g2 : (3000 : Int) < (longN l : Int) := by omega
      clear h hbig
      go_wp2_with fail
      refine HL.out.mono ?_
      rintro e w1 ⟨rfl, hb1⟩
      have HB1 := Lib.hid hb1
      clear hb1
      have HKN := Lib.hid (HK.out w1 (HB1.out))
      go_wp2_with fail
      refine HKN.out.mono ?_
      rintro e w99 ⟨rfl, hb99⟩
      go_wp2_with fail
      go_ret
      exact ⟨rfl, (HB1.out).trans (hb99.mono (HB1.out).size)⟩
    · have g2 : ¬ (3000 : Int) < (longN l : Int) := by omega
      have hti : TinyX l := smallL_tiny (by unfold smallL; rw [decide_eq_true (by omega), decide_eq_true (by omega)]; rfl)
      have HSM := Lib.hid hti.small
      have HTR := Lib.hid (fun (W : World) (hb : Below w.heap.size w W) => h.below hb)
      clear h hbig hti
      by_cases h3 : 80 < S.size
      · have g3 : (80 : Int) < (S.size : Int) := by omega
        go_wp2_with fail
        refine HL.out.mono ?_
        rintro e w1 ⟨rfl, hb1⟩
        have HB1 := Lib.hid hb1
        clear hb1
        have HKN := Lib.hid (HK.out w1 (HB1.out))
        go_wp2_with fail
        refine HKN.out.mono ?_
        rintro e w99 ⟨rfl, hb99⟩
        go_wp2_with fail
        go_ret
        exact ⟨rfl, (HB1.out).trans (hb99.mono (HB1.out).size)⟩
      · have g3 : ¬ (80 : Int) < (S.size : Int) := by omega
        go_wp2_with fail
        refine HL.out.mono ?_
        rintro e w1 ⟨rfl, hb1⟩
        have HB1 := Lib.hid hb1
        clear hb1 HL
        go_wp2_with fail
        refine (refright_any S w1 (by omega)).mono ?_
        rintro e w2 ⟨rfl, hb2⟩
        have HB2 := Lib.hid (HB1.out.trans (hb2.mono HB1.out.size))
        clear hb2
        cases hr : rightB S.data.toList with
        | false =>
          have HKN := Lib.hid (HK.out w2 (HB2.out))
          go_wp2_with fail
          refine HKN.out.mono ?_
          rintro e w99 ⟨rfl, hb99⟩
          go_wp2_with fail
          go_ret
          exact ⟨rfl, (HB2.out).trans (hb99.mono (HB2.out).size)⟩
        | true =>
          have HRR := Lib.hid hr
          clear hr
          by_cases h5 : dir.toList = []
          · have g5 : dir.toList.isEmpty = true := by simp [h5]
            clear h5
            have HKN := Lib.hid (HK.out w2 (HB2.out))
            go_wp2_with fail
            refine HKN.out.mono ?_
            rintro e w99 ⟨rfl, hb99⟩
            go_wp2_with fail
            go_ret
            exact ⟨rfl, (HB2.out).trans (hb99.mono (HB2.out).size)⟩
          · have g5 : dir.toList.isEmpty = false := by simpa using h5
            have HD0 : Hid (dir.data.toList ≠ []) := fun e => h5 (by rw [ByteArray.toList_eq]; exact e)
            clear h5
            go_wp2_with fail
            refine (refdirL_any S w2 (by omega)).mono ?_
            rintro e w' ⟨rfl, hw⟩
            have hw := hw.symm
            subst hw
            by_cases h4 : dirL S.data.toList = dir.data.toList
            · have g4 : mkB (dirL S.data.toList) = dir := by rw [h4, data_mkB]
              rw [g4]
              have HDIR := Lib.hid h4
              clear g4 h4
              by_cases h6 : 500 < more.size
              · have g6 : (500 : Int) < (more.size : Int) := by omega
                have HKN := Lib.hid (HK.out w2 (HB2.out))
                go_wp2_with fail
                refine HKN.out.mono ?_
                rintro e w99 ⟨rfl, hb99⟩
                go_wp2_with fail
                go_ret
                exact ⟨rfl, (HB2.out).trans (hb99.mono (HB2.out).size)⟩
              · have g6 : ¬ (500 : Int) < (more.size : Int) := by omega
                have hO2 := HOF.out l A c S w2 HB2.out (HTR.out w2 HB2.out) HSM.out (by omega)
                have hnm := ofT_named (flsX l) S.data.toList
                have hri := ofT_rises (flsX l) S.data.toList
                have hwr := ofT_wrong (flsX l) S.data.toList
                obtain ⟨r, hr⟩ : ∃ r, ofT (flsX l) S.data.toList = r := ⟨_, rfl⟩
                rw [hr] at hO2 hnm hri hwr
                obtain ⟨r1, r2⟩ := r
                unfold TextsPost at hO2
                simp only at hO2 hnm hri hwr
                have HO2 := Lib.hid hO2
                have HNM := Lib.hid hnm
                have HRI := Lib.hid hri
                have HWR := Lib.hid hwr
                clear hO2 hnm hri hwr hr
                go_wp2_with fail
                refine HO2.out.mono ?_
                rintro e w3 ⟨A3, c3, rfl, hs3, hc3, hm3, hb3⟩
                have HB3 := Lib.hid (HB2.out.trans (hb3.mono HB2.out.size))
                have HS3 := Lib.hid hs3
                unfold maxLen at hm3
                clear hs3 hb3 HO2
                go_wp2_with fail
                go_loopw [12] (fun i wr => ∃ k : Nat, k ≤ r2.length ∧ i = .int .i64 k ∧ Below w3.heap.size w3 wr) (fun i _ => r2.length - (intOf i).toNat)
                case atStart => exact ⟨0, Nat.zero_le _, rfl, Below.refl _ _⟩
                case round =>
                  obtain ⟨k, hk, rfl, hbr⟩ := hrel
                  have HBR := Lib.hid hbr
                  clear hbr
                  by_cases hlt : k < r2.length
                  · obtain ⟨x, hx⟩ : ∃ x, r2[k]? = some x := ⟨_, List.getElem?_eq_getElem hlt⟩
                    obtain ⟨g, o, hA3, hc⟩ := HS3.out (by omega)
                    subst hA3
                    have hgl : g < w3.heap.size := World.block_lt_of_cell? w3 (a := ⟨g, o + k, none⟩) (hc k x hx)
                    have c1 := (HBR.out.cell (p := ⟨g, o + k, none⟩) hgl).trans (hc k x hx)
                    have k1 : (k : Int) < (r2.length : Int) := by omega
                    have hnx : namedB x = true := HNM.out x (List.mem_of_getElem? hx)
                    have hnc : ∀ W, Calls Tryz.prog 16 #[.string (mkB x)] W fun e w' => e = .returned (.bool true) ∧ w' = W := fun W => by
                      have := named_any (mkB x) W (by
                        have h20 := hnx; unfold namedB at h20; simp only [Bool.and_eq_true, decide_eq_true_eq] at h20
                        rw [mkB_size]; unfold maxLen; omega)
                      rw [mkB_data, hnx] at this; exact this
                    have HNC := Lib.hid hnc
                    clear hnx hnc
                    by_cases hk0 : k = 0
                    · subst hk0
                      rw [Nat.add_zero] at c1
                      have k1 : (0 : Int) < (r2.length : Int) := by omega
                      clear hc hx
                      go_wp2_with fail
                      go_quiet ((go_at_call 16; exact Calls.quiet_of_same (HNC.out _)))
                      go_wp2_with fail
                      go_roundw
                      case rel => exact ⟨1, by omega, rfl, belowQ HBR.out _⟩
                      case measure => simp [intOf]; omega
                    · obtain ⟨m, rfl⟩ : ∃ m, k = m + 1 := ⟨k - 1, by omega⟩
                      obtain ⟨y, hy⟩ : ∃ y, r2[m]? = some y := ⟨_, List.getElem?_eq_getElem (by omega)⟩
                      have c2 := (HBR.out.cell (p := ⟨g, o + m, none⟩) hgl).trans (hc m y hy)
                      have hlt2 : ltB y x = true := by
                        have := List.pairwise_iff_getElem.1 HRI.out m (m + 1) (by omega) hlt (by omega)
                        rw [(List.getElem?_eq_some_iff.1 hy).2, (List.getElem?_eq_some_iff.1 hx).2] at this; exact this
                      have q1 : Op.bytesLess (mkB x).toList (mkB y).toList = false := by rw [ByteArray.toList_eq, ByteArray.toList_eq, mkB_data, mkB_data]; exact ltB_asymm _ _ hlt2
                      have q2 : ((mkB x).toList == (mkB y).toList) = false := by rw [ByteArray.toList_eq, ByteArray.toList_eq, mkB_data, mkB_data, beq_eq_false_iff_ne]; exact (ltB_ne _ _ hlt2).symm
                      have q3 : IntKind.i64.wrap ((m : Int) + 1 - 1) = (m : Int) := by
                        rw [show (m : Int) + 1 - 1 = (m : Int) from by omega]; exact IntWalk.i64_in _ (by omega)
                      have q4 : (0 : Int) < (m : Int) + 1 := by omega
                      have q7 : (m : Int) + 1 < (r2.length : Int) := by omega
                      have q5 : (m : Int) < (r2.length : Int) := by omega
                      have q6 : ¬ (m : Int) < 0 := by omega
                      clear hc hx hy hlt2
                      go_wp2_with fail
                      go_quiet ((go_at_call 16; exact Calls.quiet_of_same (HNC.out _)))
                      go_wp2_with fail
                      go_roundw
                      case rel => exact ⟨m + 1 + 1, by omega, by go_num, belowQ HBR.out _⟩
                      case measure => simp [intOf]; omega
                  · obtain rfl : k = r2.length := by omega
                    obtain ⟨V0, hV0⟩ : ∃ V0, wr = V0 := ⟨_, rfl⟩
                    subst hV0
                    have hBr := HB3.out.trans (HBR.out.mono HB3.out.size)
                    have HBr := Lib.hid hBr
                    have HW := Lib.hid (HWR.out)
                    clear hBr HBR HS3 HNM HRI HWR
                    by_cases he : r1 = 0
                    · obtain rfl := he
                      have hcv := conv_bytes wr more
                      obtain ⟨W4, hW4⟩ : ∃ W4, (wr.alloc (rowB wr more)).drew = W4 := ⟨_, rfl⟩
                      have HP := Lib.hid (refputN_any l A c ⟨#[79, 87, 78, 69, 82, 83]⟩ more wr W4 (HTR.out wr HBr.out) HSM.out (by omega) (by decide) (by omega) hW4.symm)
                      have HW4 := Lib.hid hW4
                      clear hW4
                      go_wp2_with fail
                      rw [HW4.out]
                      refine HP.out.mono ?_
                      clear HP HW4 hcv
                      rintro e w5 ⟨A5, c5, l5, rfl, ht5, hs5, hf5, hl5, hb5⟩
                      have HB5 := Lib.hid (HBr.out.trans (hb5.mono HBr.out.size))
                      have HT5 := Lib.hid ht5
                      have HS5 := Lib.hid hs5
                      clear ht5 hb5 hs5 hf5
                      have HJ5 := Lib.hid (join_any dir ⟨#[79, 87, 78, 69, 82, 83]⟩ w5 (by have := dir_le S dir HDIR.out; omega) (by decide))
                      obtain ⟨P, hP⟩ : ∃ P, mkB (join2 dir.data.toList (ByteArray.mk #[79, 87, 78, 69, 82, 83]).data.toList) = P := ⟨_, rfl⟩
                      rw [hP] at HJ5
                      have HPD : Hid (P.data.toList = join2 dir.data.toList ownW) := by unfold Hid; rw [← hP, mkB_data]; rfl
                      have hpz : P.size ≤ 200 := by
                        rw [← hP, mkB_size, show (ByteArray.mk #[79, 87, 78, 69, 82, 83]).data.toList = ownW from rfl, join_len HD0.out]
                        have := dir_le S dir HDIR.out
                        have : dir.data.toList.length = dir.size := Array.length_toList
                        omega
                      have HPE := Lib.hid hP
                      clear hP
                      go_wp2_with fail
                      refine HJ5.out.mono ?_
                      rintro e w' ⟨rfl, hw⟩
                      have hw := hw.symm
                      subst hw
                      clear HJ5
                      have kc := fun (w : World) (C : Array Value) (n c : Nat) => Lib.run_convert_bytes_const (P := Tryz.prog) w 50 5 C n c Tryz.underlying50 Tryz.underlying5
                      go_wp2_with fail
                      obtain ⟨W6, hW6⟩ : ∃ W6, w5.alloc (.cells #[.int .u8 115, .int .u8 101, .int .u8 116, .int .u8 32, .int .u8 110, .int .u8 111, .int .u8 112, .int .u8 97, .int .u8 114, .int .u8 101, .int .u8 110, .int .u8 116, .int .u8 10, .int .u8 109, .int .u8 101, .int .u8 10] 5 (16, 17)) = W6 := ⟨_, rfl⟩
                      have hb6 : Below w5.heap.size w5 W6 := by rw [← hW6]; exact (Below.refl _ _).alloc (Nat.le_refl _) _
                      have hat6 : BytesAt W6 (some ⟨w5.heap.size, 0, none⟩) meB := by rw [← hW6]; exact bytes_block (heap_alloc_new w5 _)
                      rw [hW6]
                      refine (refputB_any l5 A5 c5 ⟨P, some ⟨w5.heap.size, 0, none⟩, 16, meB⟩ W6 (HT5.out.below hb6) HS5.out (by omega) (by show P.size ≤ _; omega) (by show (16 : Nat) ≤ 1000000; decide) hat6).mono ?_
                      rintro e w7 ⟨A7, c7, l7, rfl, ht7, hs7, hf7, _, hb7⟩
                      have hb57 : Below w5.heap.size w5 w7 := hb6.trans (hb7.mono hb6.size)
                      have HB7 := Lib.hid (HB5.out.trans (hb57.mono HB5.out.size))
                      have hO7 := HOF.out l7 A7 c7 S w7 HB7.out ht7 hs7 (by omega)
                      have hme : ofT (flsX l7) S.data.toList = (0, [[109, 101]]) := by
                        rw [hf7]
                        show ofT (putT _ (P.data.toList, meB)) _ = _
                        rw [HPD.out, ← HDIR.out]; exact ofT_me _ _ HRR.out
                      rw [hme] at hO7
                      unfold TextsPost at hO7
                      simp only [List.length_cons, List.length_nil, Nat.zero_add] at hO7
                      have HO7 := Lib.hid hO7
                      clear hO7 hme hf7 ht7 hs7 hb57 hb6 hb7 hat6 hW6 kc hl5 HT5 HS5
                      go_wp2_with fail
                      refine HO7.out.mono ?_
                      clear HO7
                      rintro e w8 ⟨A8, c8, rfl, hs8, hc8, hm8, hb8⟩
                      have HB8 := Lib.hid (HB7.out.trans (hb8.mono HB7.out.size))
                      obtain ⟨g8, o8, hA8, hq8⟩ := hs8 (by simp)
                      subst hA8
                      have cw : w8.cell? ⟨g8, o8, none⟩ = some (.string ⟨#[109, 101]⟩) := hq8 0 _ rfl
                      have HJ8 := Lib.hid (refjoin_any dir ⟨#[79, 87, 78, 69, 82, 83]⟩ w8 (by have := dir_le S dir HDIR.out; omega) (by decide))
                      rw [HPE.out] at HJ8
                      have HDR := Lib.hid (refdropB_any l A c P w8 (HTR.out w8 HB8.out) HSM.out)
                      clear hs8 hb8 hq8
                      go_wp2_with fail
                      refine HJ8.out.mono ?_
                      clear HJ8
                      rintro e w' ⟨rfl, hw⟩
                      have hw := hw.symm
                      subst hw
                      go_wp2_with fail
                      refine HDR.out.mono ?_
                      clear HDR
                      rintro e w9 ⟨A9, c9, l9, rfl, ht9, hs9, hf9, hb9⟩
                      have HB9 := Lib.hid (HB8.out.trans (hb9.mono HB8.out.size))
                      have HJ9 := Lib.hid (refjoin_any dir ⟨#[122, 122, 47, 79, 87, 78, 69, 82, 83]⟩ w9 (by have := dir_le S dir HDIR.out; omega) (by decide))
                      obtain ⟨Z, hZ⟩ : ∃ Z, mkB (join2 dir.data.toList (ByteArray.mk #[122, 122, 47, 79, 87, 78, 69, 82, 83]).data.toList) = Z := ⟨_, rfl⟩
                      have hzd : Z.data.toList = join2 dir.data.toList zzO := by rw [← hZ, mkB_data]; rfl
                      rw [hZ] at HJ9
                      have HD9 := Lib.hid (refdropB_any l9 A9 c9 Z w9 ht9 hs9)
                      rw [hzd, hf9, HPD.out] at HD9
                      clear hZ hzd ht9 hs9 hf9 hb9 cw
                      go_wp2_with fail
                      refine HJ9.out.mono ?_
                      clear HJ9
                      rintro e w' ⟨rfl, hw⟩
                      have hw := hw.symm
                      subst hw
                      go_wp2_with fail
                      refine HD9.out.mono ?_
                      clear HD9
                      rintro e w10 ⟨A10, c10, l10, rfl, ht10, hs10, hf10, hb10⟩
                      have HB10 := Lib.hid (HB9.out.trans (hb10.mono HB9.out.size))
                      have hjp := join_parts HD0.out (by rw [← HS.out]; exact HDIR.out)
                      have hsl : S.data.toList.length = S.size := Array.length_toList
                      have hnm : baseL S.data.toList = name.data.toList := by rw [HS.out, hjp.1, base_parts _ _ hjp.2]
                      obtain ⟨S2, hS2⟩ : ∃ S2, mkB (join2 dir.data.toList ((⟨#[122, 122, 47]⟩ : ByteArray) ++ mkB (baseL S.data.toList)).data.toList) = S2 := ⟨_, rfl⟩
                      have hs2d : S2.data.toList = dir.data.toList ++ 47 :: (zzW ++ 47 :: name.data.toList) := by
                        rw [← hS2, mkB_data, ← zz_name HD0.out]; congr 1
                        rw [ByteArray.data_append, Array.toList_append, mkB_data, hnm]
                      have hzz := ofT_zz (flsX l) (dir := dir.data.toList) (name := name.data.toList) HD0.out hjp.2 (by rw [← hjp.1, ← HS.out]; exact HRR.out) (by rw [← hjp.1, ← HS.out]; omega)
                      rw [← hf10, ← hjp.1, ← HS.out, ← hs2d] at hzz
                      have hlen2 := congrArg List.length hs2d
                      rw [Array.length_toList] at hlen2
                      have hlen1 := congrArg List.length (HS.out.trans hjp.1)
                      rw [hsl] at hlen1
                      simp only [List.length_append, List.length_cons] at hlen1 hlen2
                      have hs2z : S2.size ≤ 200 := by
                        have : zzW.length = 2 := rfl
                        show S2.data.size ≤ 200
                        omega
                      have hbz : (baseL S.data.toList).length ≤ 80 := by rw [hnm]; omega
                      have hO10 := HOF.out l10 A10 c10 S w10 HB10.out ht10 hs10 (by omega)
                      have hO11 := fun (W : World) (hb : Below w.heap.size w W) (hb2 : Below w10.heap.size w10 W) => HOF.out l10 A10 c10 S2 W hb (ht10.below hb2) hs10 (by omega)
                      have hqn := ofT_len (flsX l10) S.data.toList (by omega)
                      rw [← hzz] at hO11
                      obtain ⟨q, hq⟩ : ∃ q, ofT (flsX l10) S.data.toList = q := ⟨_, rfl⟩
                      rw [hq] at hO10 hO11 hqn
                      obtain ⟨q1, q2⟩ := q
                      unfold TextsPost at hO10 hO11
                      simp only at hO10 hO11 hqn
                      have HO10 := Lib.hid hO10
                      have HO11 := Lib.hid hO11
                      have HBS := Lib.hid (fun W => refbaseL_any S W (by omega))
                      have HJN := Lib.hid (fun W => join_any dir ((⟨#[122, 122, 47]⟩ : ByteArray) ++ mkB (baseL S.data.toList)) W (by have := dir_le S dir HDIR.out; omega) (by rw [ByteArray.size_append, mkB_size]; show 3 + _ ≤ _; omega))
                      rw [hS2] at HJN
                      have hmz : (mkB (baseL S.data.toList)).size ≤ 80 := by rw [mkB_size]; exact hbz
                      obtain ⟨N, hN⟩ : ∃ N, mkB (baseL S.data.toList) = N := ⟨_, rfl⟩
                      rw [hN] at HBS HJN hmz
                      clear hO10 hO11 hq hzz hs2d hnm hjp hS2 hN ht10 hs10 hf10 hb10 hlen1 hlen2 hbz hsl
                      go_wp2_with fail
                      refine HO10.out.mono ?_
                      clear HO10
                      rintro e w11 ⟨A11, c11, rfl, hs11, hc11, hm11, hb11⟩
                      have HB11 := Lib.hid (HB10.out.trans (hb11.mono HB10.out.size))
                      have HQ11 := Lib.hid hb11
                      have HS11 := Lib.hid hs11
                      clear hb11 hs11
                      go_wp2_with fail
                      refine (HBS.out w11).mono ?_
                      rintro e w' ⟨rfl, hw⟩
                      have hw := hw.symm
                      subst hw
                      go_wp2_with fail
                      refine (HJN.out w11).mono ?_
                      rintro e w' ⟨rfl, hw⟩
                      have hw := hw.symm
                      subst hw
                      go_wp2_with fail
                      refine (HO11.out w11 HB11.out HQ11.out).mono ?_
                      rintro e w12 ⟨A12, c12, rfl, hs12, hc12, hm12, hb12⟩
                      have HB12 := Lib.hid (HB11.out.trans (hb12.mono HB11.out.size))
                      have HST := Lib.hid (sametexts_any q2 q2 A11 A12 c11 c12 w12 (HS11.out.below hb12) hs12 hqn hqn)
                      rw [decide_eq_true rfl] at HST
                      clear hs12 hb12
                      go_wp2_with fail
                      refine HST.out.mono ?_
                      rintro e w13 ⟨rfl, hb13⟩
                      have HB13 := Lib.hid (HB12.out.trans (hb13.mono HB12.out.size))
                      clear hb13
                      have HKN := Lib.hid (HK.out w13 (HB13.out))
                      go_wp2_with fail
                      refine HKN.out.mono ?_
                      rintro e w99 ⟨rfl, hb99⟩
                      go_wp2_with fail
                      go_ret
                      exact ⟨rfl, (HB13.out).trans (hb99.mono (HB13.out).size)⟩
                    · have e2 : (r1 != 0) = true := by simpa using he
                      have e3 : (r1 = 0) = False := eq_false he
                      have hnil := HW.out he
                      subst hnil
                      have HKN := Lib.hid (HK.out wr (HBr.out))
                      go_wp2_with fail
                      refine HKN.out.mono ?_
                      rintro e w99 ⟨rfl, hb99⟩
                      go_wp2_with fail
                      go_ret
                      exact ⟨rfl, (HBr.out).trans (hb99.mono (HBr.out).size)⟩
            · have g4 : ((mkB (dirL S.data.toList)).toList == dir.toList) = false := by rw [ByteArray.toList_eq, ByteArray.toList_eq, mkB_data, beq_eq_false_iff_ne]; exact h4
              have g4b : ((mkB (dirL S.data.toList)).toList != dir.toList) = true := by unfold bne; rw [g4]; rfl
              clear h4
              have HKN := Lib.hid (HK.out w2 (HB2.out))
              go_wp2_with fail
              refine HKN.out.mono ?_
              rintro e w99 ⟨rfl, hb99⟩
              go_wp2_with fail
              go_ret
              exact ⟨rfl, (HB2.out).trans (hb99.mono (HB2.out).size)⟩
end Go.Proofs.YtkihgbggndikpaaGreatDoor
namespace Go.Proofs.YtkihgbggndikpaaGreatDoor.ownersUp
open Go Go.ChangeShapes Go.WideShapes Go.ChangeAt Go.RowKit Go.Proofs Go.Proofs.YtkihgbggndikpaaGreatDoor
open Go.ChangeMaps (open_string shut_string)

set_option maxRecDepth 100000 in
theorem contract (H : Type) (enc : TypeId × Value → H) (W : World) (base : Nat) (args : Array Value) (ds gs : List (DataW H)) (before : List MemPlace)
    (hval : ∀ (j : Nat) t v, Tryz.f6.params[j]? = some t → args[j]? = some v → Value.okWide Tryz.prog W .any base t v)
    (hW : DataW.Whole enc Tryz.prog Tryz.f6.params.toList Rows.ownersUpSpec.vars false W args.toList ds gs before)
    (hsz : (DataW.weightsEach Tryz.prog (Tryz.f6.params.toList ++ (OpenSpec.ofChange Rows.ownersUpSpec).bare.plain.varTypes Tryz.prog) (ds ++ gs)).all (· ≤ reachBytes) = true) (hL : laidMet Tryz.prog Rows.ownersUpRow.laid W) (hsh : W.ShapedOpen Tryz.prog) :
    Calls Tryz.prog 6 args W fun e W' => ∃ v, e = .returned v ∧ Rows.ownersUpSpec.post enc Tryz.prog Tryz.f6 false true false false W args v W' := by
  have tabs : TabsOk W := tabs_of hL
  have hW' := hW
  obtain ⟨p, q, hA0, hV, rfl, hfz, hnd⟩ := hW
  have hA : DataW.TrodAll enc Tryz.prog W 0 (fun _ => true) true Tryz.f6.params.toList args.toList ds p := hA0
  rw [Tryz.params6] at hA hval hsz
  obtain ⟨v0, vs0, d0, ds0, p0, q0, hargs, rfl, rfl, h0, r0⟩ := trodAll_cons hA
  obtain ⟨v1, vs1, d1, ds1, p1, q1, rfl, rfl, rfl, h1, r1⟩ := trodAll_cons r0
  obtain ⟨v2, vs2, d2, ds2, p2, q2, rfl, rfl, rfl, h2, r2⟩ := trodAll_cons r1
  obtain ⟨v3, vs3, d3, ds3, p3, q3, rfl, rfl, rfl, h3, r3⟩ := trodAll_cons r2
  obtain ⟨rfl, rfl, rfl⟩ := trodAll_nil r3
  obtain rfl : args = #[v0, v1, v2, v3] := by cases args; simp_all
  obtain ⟨rfl, rfl⟩ := trodVars_none hV
  clear hA0
  simp only [List.append_nil] at hW'
  obtain ⟨ff0, ff1, FT⟩ := file_ty
  have k0 := h0
  have lt0 : ∀ x ∈ p0, x.block < W.heap.size := fun x hx => hW'.lt x (by simp [hx])
  have k1 := h1
  have lt1 : ∀ x ∈ p1, x.block < W.heap.size := fun x hx => hW'.lt x (by simp [hx])
  have k2 := h2
  have lt2 : ∀ x ∈ p2, x.block < W.heap.size := fun x hx => hW'.lt x (by simp [hx])
  have k3 := h3
  have lt3 : ∀ x ∈ p3, x.block < W.heap.size := fun x hx => hW'.lt x (by simp [hx])
  obtain ⟨A0, c0, l0, rfl, t0, b0⟩ := open_treeV Tryz.underlying37 FT (hval 0 37 v0 rfl rfl) h0 (sized_of hsz (j := 0) rfl rfl)
  have y1 := (sized_of hsz (j := 1) rfl rfl)
  obtain ⟨s1, rfl, rfl, rfl, z1⟩ := open_string Tryz.underlying9 (hval 1 9 v1 rfl rfl) h1
  have y1 := y1.str
  have e1 : s1.data.toList.length = s1.size := Array.length_toList
  have y2 := (sized_of hsz (j := 2) rfl rfl)
  obtain ⟨s2, rfl, rfl, rfl, z2⟩ := open_string Tryz.underlying9 (hval 2 9 v2 rfl rfl) h2
  have y2 := y2.str
  have e2 : s2.data.toList.length = s2.size := Array.length_toList
  have y3 := (sized_of hsz (j := 3) rfl rfl)
  obtain ⟨s3, rfl, rfl, rfl, z3⟩ := open_string Tryz.underlying9 (hval 3 9 v3 rfl rfl) h3
  have y3 := y3.str
  have e3 : s3.data.toList.length = s3.size := Array.length_toList
  refine (oup_any l0 A0 c0 s1 s2 s3 W t0 b0 (by unfold reachBytes at y1; omega) (by unfold reachBytes at y2; omega) (by unfold reachBytes at y3; omega) (max_ok hsh) tabs).mono fun e W' ⟨he, hg⟩ => ?_
  subst he
  exact ⟨_, rfl, _, _, _, [], _, [], hW', trodAll_cons_mk (shut_bool Tryz.underlying4 _) trodAll_mk0, trodAll_cons_mk (Below.trod laid_out (by kernel_rfl) (of_decide_eq_true (by kernel_rfl)) k0 hg lt0) (trodAll_cons_mk (Below.trod laid_out (by kernel_rfl) (of_decide_eq_true (by kernel_rfl)) k1 hg lt1) (trodAll_cons_mk (Below.trod laid_out (by kernel_rfl) (of_decide_eq_true (by kernel_rfl)) k2 hg lt2) (trodAll_cons_mk (Below.trod laid_out (by kernel_rfl) (of_decide_eq_true (by kernel_rfl)) k3 hg lt3) (trodAll_mk0)))), rfl, hg.frame _, fun h => by cases h⟩

set_option maxRecDepth 100000 in
theorem laid_met (os : Os) : laidMet Tryz.prog Rows.ownersUpRow.laid ((laidWorld os).forCall (fun _ _ => 0) ⟨#[], #[.slice none 0 0, .string ⟨#[]⟩, .string ⟨#[]⟩, .string ⟨#[]⟩], []⟩).memory :=
  laidMet_of_run' 8 (by kernel_rfl) (by kernel_rfl)
set_option maxRecDepth 100000 in
theorem reads (os : Os) {H : Type} (enc : TypeId × Value → H) : ∃ places, DataW.whole enc Tryz.prog ((laidWorld os).forCall (fun _ _ => 0) ⟨#[], #[.slice none 0 0, .string ⟨#[]⟩, .string ⟨#[]⟩, .string ⟨#[]⟩], []⟩).memory Tryz.f6.params.toList Rows.ownersUpSpec.vars false (#[.slice none 0 0, .string ⟨#[]⟩, .string ⟨#[]⟩, .string ⟨#[]⟩] : Array Value).toList 8 = some ([.nil, .lit (.string []), .lit (.string []), .lit (.string [])], [], places) :=
  ⟨[], by kernel_rfl⟩

set_option maxRecDepth 100000 in
theorem lifted (os : Os) (started : os.Started) (H : Type) (enc : TypeId × Value → H) (F : Stop.Interp) :
    ReturnsInHanded {} Tryz.checked os 6 .any ((OpenSpec.ofChange Rows.ownersUpSpec).preRow enc Tryz.prog Tryz.f6 Rows.ownersUpRow.domain false Rows.ownersUpRow.laid) (((OpenSpec.ofChange Rows.ownersUpSpec).at F).post enc Tryz.prog Tryz.f6 false true false false) := by
  obtain ⟨places, hx⟩ := reads os enc
  refine returnsInHanded_of_row (C := Tryz.checked) (s := OpenSpec.ofChange Rows.ownersUpSpec) own started (by kernel_rfl) Tryz.func6
    (witness_row_at (enc := enc) (C := Tryz.checked) false (laidWorld os) #[.slice none 0 0, .string ⟨#[]⟩, .string ⟨#[]⟩, .string ⟨#[]⟩] rfl (by kernel_rfl) (by kernel_rfl) (by kernel_rfl)
      (OpenSpec.preRow_of_cond 8 hx (by kernel_rfl) (fun k hk => by cases hk) (by kernel_rfl) (laid_met os))) ?_
  intro W base args ds gs before hval hW _ _ hsz hL hsh _
  exact contract H enc W base args ds gs before hval hW hsz hL hsh

set_option maxRecDepth 100000 in
theorem said : Rows.OwnersUpSaid :=
  OpenClaim.holds_of_cond 6 Tryz.f6 rfl rfl rfl rfl rfl rfl rfl ⟨rfl, rfl, rfl, rfl, rfl⟩ rfl rfl rfl rfl rfl (by kernel_rfl) Tryz.func6 (by kernel_rfl)
    (of_decide_eq_true (by kernel_rfl)) (by unfold Func.isWrapper; first | (rw [if_pos (by decide +kernel)]; kernel_rfl) | (rw [if_neg (by decide +kernel)]; exact ⟨rfl, rfl⟩))
    (fun os started H enc _ F => by rw [OpenClaim.pre_eq_preRow]; exact lifted os started H enc F)

set_option maxRecDepth 100000 in
theorem plain (f : FuncId) (fn : Func) (hf : Tryz.pinned.checked.prog.funcNamed Rows.ownersUpRow.func = some f) (hfn : Tryz.pinned.checked.prog.funcs[f]? = some fn) :
    false = Tryz.pinned.checked.prog.looks [] ∧ ∀ (j : Nat) t, fn.params[j]? = some t → Tryz.pinned.checked.prog.wantsStandIn t = false := by
  obtain rfl : f = 6 := Option.some.inj ((show Tryz.prog.funcNamed Rows.ownersUpRow.func = some 6 by kernel_rfl).symm.trans hf) |>.symm
  obtain rfl : fn = Tryz.f6 := (Option.some.inj (Tryz.func6.symm.trans hfn)).symm
  refine ⟨by kernel_rfl, fun j t ht => ?_⟩
  rw [Tryz.params6] at ht
  have hm := Array.mem_of_getElem? ht
  simp only [List.mem_toArray, List.mem_cons, List.mem_nil_iff, or_false] at hm
  rcases hm with rfl | rfl | rfl | rfl <;> first | exact (show Tryz.prog.wantsStandIn 37 = false by kernel_rfl) | exact (show Tryz.prog.wantsStandIn 9 = false by kernel_rfl)

set_option maxRecDepth 100000 in
theorem card_holds : Rows.OwnersUpCardSaid :=
  Claim7.holds_tied_plain_at .later [] _ _ _ _ said (fun _ h => by cases h) (by kernel_rfl) (fun _ h => by cases h) ownersUp_row_tie rfl ⟨rfl, rfl⟩ (by kernel_rfl) rfl plain (by kernel_rfl)
end Go.Proofs.YtkihgbggndikpaaGreatDoor.ownersUp
