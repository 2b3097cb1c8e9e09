/-
  The document's own Of. · The law OwnersTells: Of answers what the document's own Of answers. · Plain: a tree whose one file is OWNERS, with a name in each line: whose its files are. · Plain: a tree whose one file is a directory's OWNERS, with one line for some of its files. · The law OwnersGlobs: a line for some files of a directory.
-/
import Derived.Test.YtkihgbggndikpaaGreatDoorOwRefs
import Derived.Test.YtkihgbggndikpaaGreatDoorOwKnown
import Derived.Test.YtkihgbggndikpaaGreatDoorTRefC
import Derived.Test.YtkihgbggndikpaaGreatDoorBase
import Derived.Test.YtkihgbggndikpaaGreatDoorTNested
import Derived.BigQuiet
import Derived.Deep.RegionHeld3
import Derived.Test.YtkihgbggndikpaaGreatDoorOwUps
import Derived.Test.YtkihgbggndikpaaGreatDoorFits
namespace Go.Proofs.YtkihgbggndikpaaGreatDoor
open Go Go.RowKit Go.Shelf Go.Proofs
attribute [local go_sem] Oper.semAt_some

/-- Names in a row: where they lie. -/
structure TxAt (w : World) (A : Option Addr) (c : Nat) (l : List Bs) : Prop where
  at_ : StrsAt w A l
  cap : l.length ≤ c
  capm : c ≤ maxLen
  zero : l.length = 0 → A = none ∧ c = 0
theorem TxAt.nil (w : World) : TxAt w none 0 [] := ⟨StrsAt.nil _ _, Nat.le_refl _, Nat.zero_le _, fun _ => ⟨rfl, rfl⟩⟩
theorem TxAt.below {w w' : World} {A : Option Addr} {c : Nat} {l : List Bs} (h : TxAt w A c l) (hb : Below w.heap.size w w') : TxAt w' A c l := ⟨h.at_.below hb, h.cap, h.capm, h.zero⟩
theorem addS_ne (s : Bs) (l : List Bs) : (addS l s).length ≠ 0 := by
  cases l with
  | nil => simp [addS]
  | cons x r => unfold addS; split <;> (try split) <;> simp
/-- What the directory's file holds: its bytes; none, if there is none. -/
theorem refget2_any (l : List FX) (A : Option Addr) (c : Nat) (s : ByteArray) (w : World) (h : TreeAt w A c l) (hs : SmallX l) (hb : ∀ x ∈ l, x.b.length ≤ 16384) :
    Calls Tryz.prog 32 #[.slice A l.length c, .string s] w fun e w' => ∃ A2 c2 b f, e = .returned (.tuple #[.slice A2 (List.length b) c2, .bool f]) ∧ BytesAt w' A2 b ∧ b.length ≤ 16384 ∧ (match getT (flsX l) s.data.toList with | none => (0, emptyO) | some b => parseV b) = parseV b ∧ Below w.heap.size w w' := by
  refine (refget_any l A c s w h hs.1).mono ?_
  rintro e w' (⟨h1, rfl, hbl⟩ | ⟨x, hx, h1, rfl, hbl⟩)
  · exact ⟨none, 0, [], false, rfl, BytesAt.nil _ _, Nat.zero_le _, by rw [h1]; rfl, hbl⟩
  · exact ⟨x.A, x.c, x.b, true, rfl, (h.below hbl).files x hx, hb x hx, by rw [h1], hbl⟩
theorem gatherS_bound (p : Bs → Bool) : ∀ (ls : List Ln) (K : List Bs), (∀ x ∈ ls, x.2.length ≤ 16385) → (gatherS K ls p).length ≤ K.length + ls.length * 16385
  | [], K, _ => by simp [gatherS]
  | x :: r, K, h => by
    have h1 := h x (by simp)
    have ha : ∀ (m K : List Bs), (m.foldl addS K).length ≤ K.length + m.length := by
      intro m
      induction m with
      | nil => intro K; simp
      | cons y m ih => intro K; rw [List.foldl_cons]; have := ih (addS K y); have := addS_len y K; simp only [List.length_cons]; omega
    have ih := gatherS_bound p r (if x.1.isEmpty || p x.1 then x.2.foldl addS K else K) (fun y hy => h y (by simp [hy]))
    unfold gatherS at ih ⊢
    rw [List.foldl_cons]
    have hk : (if x.1.isEmpty || p x.1 then x.2.foldl addS K else K).length ≤ K.length + 16385 := by
      split
      · have := ha x.2 K; omega
      · omega
    simp only [List.length_cons]
    omega
theorem foldS_len : ∀ (m K : List Bs), (m.foldl addS K).length ≤ K.length + m.length
  | [], K => by simp
  | y :: m, K => by
    rw [List.foldl_cons]
    have := foldS_len m (addS K y)
    have := addS_len y K
    simp only [List.length_cons]; omega
theorem dirA_mk (s : ByteArray) : dirA s = mkB (dirL s.data.toList) := by
  rcases Lib.lastIndexByte_spec s 47 with ⟨hk, hn⟩ | ⟨i, hi, hk, hc, hn⟩
  · have hr : dirA s = s.extract 0 0 := by unfold dirA; rw [hk]; rfl
    rw [hr, dirL_miss s hn]; apply ByteArray.ext; simp [mkB]
  · have hr : dirA s = s.extract 0 i := by unfold dirA; rw [hk]; congr 1; omega
    rw [hr, dirL_hit s i hi hc hn, ← data_mkB (s.extract 0 i), Lib.extract_data]; simp
theorem refdirL_any (s : ByteArray) (w : World) (hs : s.size ≤ 1000000) : Calls Tryz.prog 27 #[.string s] w fun e w' => e = .returned (.string (mkB (dirL s.data.toList))) ∧ w' = w := by
  rw [← dirA_mk]; exact refdir_any s w hs
theorem refbaseL_any (s : ByteArray) (w : World) (hs : s.size ≤ 1000000) : Calls Tryz.prog 31 #[.string s] w fun e w' => e = .returned (.string (mkB (baseL s.data.toList))) ∧ w' = w := by
  rw [← base_list, data_mkB]; exact refbase_any s w hs
theorem baseL_le (l : Bs) : (baseL l).length ≤ l.length := by
  have := base_list (mkB l)
  rw [mkB_data] at this
  rw [← this, Array.length_toList]
  unfold baseA
  show (ByteArray.extract _ _ _).size ≤ _
  rw [ByteArray.size_extract, mkB_size]; omega
set_option maxRecDepth 100000 in
set_option maxHeartbeats 16000000 in
theorem refof_any (l : List FX) (A : Option Addr) (c : Nat) (s : ByteArray) (w : World) (h : TreeAt w A c l) (hsm : SmallX l) (hb : ∀ x ∈ l, x.b.length ≤ 16384) (hs : s.size ≤ 1000) (hr : rightB s.data.toList = true) :
    Calls Tryz.prog 23 #[.slice A l.length c, .string s] w (TextsPost (ofT (flsX l) s.data.toList) w) := by
  have hof : ofT (flsX l) s.data.toList = ofStep (flsX l) (dirL s.data.toList) (baseL s.data.toList) (ups (dirL s.data.toList)) [] := by unfold ofT; rw [hr]; rfl
  rw [hof]
  obtain ⟨home, hhome⟩ : ∃ x, dirL s.data.toList = x := ⟨_, rfl⟩
  obtain ⟨base, hbase⟩ : ∃ x, baseL s.data.toList = x := ⟨_, rfl⟩
  have hds : home.length ≤ s.size := by
    rw [← hhome]
    have h1 : s.data.toList.length = s.size := Array.length_toList
    by_cases e : s.data.toList = []
    · rw [e]; simp [dirL]
    · have := dir_shorter e; omega
  have hbs : base.length ≤ s.size := by
    rw [← hbase]
    have h1 : s.data.toList.length = s.size := Array.length_toList
    have := baseL_le s.data.toList; omega
  rw [hhome, hbase]
  obtain ⟨r, hrr⟩ : ∃ r, ofStep (flsX l) home base (ups home) [] = r := ⟨_, rfl⟩
  rw [hrr]
  have HOF := Lib.hid hrr
  have HR := Lib.hid (refright_any s w (by omega))
  have HR1 := Lib.hid hr
  have HDIR := Lib.hid (fun W => refdirL_any s W (by omega))
  have HBASE := Lib.hid (fun W => refbaseL_any s W (by omega))
  have HT := Lib.hid h
  have HSM := Lib.hid hsm
  have HBD := Lib.hid hb
  rw [hhome] at HDIR
  rw [hbase] at HBASE
  clear hof hhome hbase hrr hr h hsm hb
  go_enter Tryz.func23, Tryz.ntmps23
  go_wp2_with fail
  refine HR.out.mono ?_
  rintro e w1 ⟨rfl, hb1⟩
  rw [HR1.out]
  have HB1 := Lib.hid hb1
  clear hb1 HR
  go_wp2_with fail
  refine (HDIR.out w1).mono ?_
  rintro e w' ⟨rfl, hw⟩
  have hw := hw.symm
  subst hw
  go_wp2_with fail
  go_loopw [6, 7] (fun v6 v7 wr => ∃ (K : List Bs) (A6 : Option Addr) (c6 : Nat) (d : ByteArray), v6 = .slice A6 K.length c6 ∧ v7 = .string d ∧ TxAt wr A6 c6 K ∧ d.size ≤ s.size ∧ K.length + d.size * 268468225 ≤ s.size * 268468225 ∧ Hid (ofStep (flsX l) home base (ups d.data.toList) K = r) ∧ Below w.heap.size w wr) (fun _ v7 _ => match v7 with | .string d => d.size | _ => 0)
  case atStart => exact ⟨[], none, 0, mkB home, rfl, rfl, TxAt.nil _, by rw [mkB_size]; exact hds, by rw [mkB_size]; simp only [List.length_nil]; omega, by rw [mkB_data]; exact HOF.out, HB1.out⟩
  case round =>
    obtain ⟨K, A6, c6, d, rfl, rfl, hK, hd, hkd, hst, hbr⟩ := hrel
    have HJ := Lib.hid (refjoin_any d ⟨#[79, 87, 78, 69, 82, 83]⟩ wr (by omega) (by decide))
    have HG := Lib.hid (refget2_any l A c (mkB (join2 d.data.toList ownW)) wr (HT.out.below hbr) HSM.out HBD.out)
    rw [mkB_data] at HG
    have hats : atT (flsX l) d.data.toList = (match getT (flsX l) (join2 d.data.toList ownW) with | none => (0, emptyO) | some b => parseV b) := rfl
    rw [← hats] at HG
    have HK := Lib.hid hK
    have HBR := Lib.hid hbr
    clear hats hK hbr
    go_wp2_with fail
    refine HJ.out.mono ?_
    rintro e w' ⟨rfl, hw⟩
    have hw := hw.symm
    subst hw
    go_wp2_with fail
    refine HG.out.mono ?_
    rintro e w2 ⟨A2, c2, b, f, rfl, hbo, hbl2, hat, hb2⟩
    have hcv := run_str w2 A2 c2 b hbo
    have HP := Lib.hid (refparse_any (mkB b) w2 (by rw [mkB_size]; exact hbl2))
    unfold ParsePost at HP
    rw [mkB_data, ← hat] at HP
    have hB2 := HBR.out.trans (hb2.mono HBR.out.size)
    have hK2 := HK.out.below hb2
    have HB2 := Lib.hid hB2
    have HK2 := Lib.hid hK2
    clear hbo hbl2 hb2 hB2 hK2
    go_wp2_with fail
    refine HP.out.mono ?_
    rintro e w3 ⟨v, rfl, hov, hb3⟩
    have hok := atT_ok (flsX l) d.data.toList
    have hst := hst.out
    rw [ups_step, ofStep_cons] at hst
    obtain ⟨e1, he1⟩ : ∃ x, (atT (flsX l) d.data.toList).1 = x := ⟨_, rfl⟩
    obtain ⟨o1, ho1⟩ : ∃ x, (atT (flsX l) d.data.toList).2 = x := ⟨_, rfl⟩
    rw [ho1] at hov hok
    rw [he1, ho1] at hst
    rw [he1]
    obtain ⟨A4, c4, L, rfl, hL, hlo⟩ := ow_agg hov
    obtain ⟨np, ol⟩ := o1
    simp only at hlo hok hst ⊢
    subst hlo
    have hb4 := (hb3.trans ((below_new' w3 (.cells #[.bool np, .slice A4 L.length c4] 24)).mono hb3.size))
    have hn4 := heap_alloc_new w3 (.cells #[.bool np, .slice A4 L.length c4] 24)
    have hL4 := hL.below (below_new' w3 (.cells #[.bool np, .slice A4 L.length c4] 24))
    have hB4 := HB2.out.trans (hb4.mono HB2.out.size)
    have hK4 := HK2.out.below hb4
    by_cases he0 : e1 = 0
    · subst he0
      rw [if_pos rfl] at hst
      have HST := Lib.hid hst
      have HN4 := Lib.hid hn4
      have HL4 := Lib.hid hL4
      have HB4 := Lib.hid hB4
      have HK4 := Lib.hid hK4
      have HOK := Lib.hid hok
      clear hst hn4 hL4 hB4 hK4 hov hL hb3 hb4 hok HP HG HJ he1 ho1 hat HK HBR HB2 HK2
      go_upto_region 9 with (fail)
      obtain ⟨w4, hw4⟩ : ∃ x, w3.alloc (.cells #[.bool np, .slice A4 L.length c4] 24) = x := ⟨_, rfl⟩
      rw [hw4] at HN4 HL4 HB4 HK4 ⊢
      obtain ⟨b10, hb10⟩ : ∃ x, w3.heap.size = x := ⟨_, rfl⟩
      rw [hb10] at HN4 ⊢
      clear hw4 hb10
      go_wp2_with fail
      have hgb := gatherS_bound
      obtain ⟨p, hp⟩ : ∃ x, askB home base d.data.toList = x := ⟨_, rfl⟩
      have HST2 := HST.out
      rw [hp] at HST2
      have HST := Lib.hid HST2
      have HPP := Lib.hid hp
      have HKL : Hid (∀ k, k ≤ L.length → (gatherS K ((lnsX L).take k) p).length ≤ K.length + 268468225) := fun k hk => by
        have h1 := gatherS_bound p ((lnsX L).take k) K (fun x hx => (HOK.out.1 x (List.mem_of_mem_take hx)).2.1)
        have h2 := List.length_take_le k (lnsX L)
        have h3 := HOK.out.2
        have h4 : ((lnsX L).take k).length * 16385 ≤ 16385 * 16385 := by
          have h5 : ((lnsX L).take k).length ≤ 16385 := by rw [List.length_take]; omega
          exact Nat.mul_le_mul_right 16385 h5
        omega
      clear HST2 hp hgb
      have hLl : L.length ≤ 16385 := by have := HOK.out.2; rwa [lnsX_length] at this
      go_loopw [6, 12] (fun v6 v12 wr => ∃ (k : Nat) (A7 : Option Addr) (c7 : Nat), k ≤ L.length ∧ v12 = .int .i64 k ∧ v6 = .slice A7 (gatherS K ((lnsX L).take k) p).length c7 ∧ TxAt wr A7 c7 (gatherS K ((lnsX L).take k) p) ∧ Below w4.heap.size w4 wr) (fun _ v12 _ => L.length - (intOf v12).toNat)
      case atStart => exact ⟨0, _, _, Nat.zero_le _, rfl, rfl, HK4.out, Below.refl _ _⟩
      case round =>
        obtain ⟨k, A7, c7, hk, rfl, rfl, hT7, hbq⟩ := hrel
        have n10 := row_below' HN4.out hbq
        have c10 := cell_of_row wr b10 0 _ _ _ n10
        have c11 := cell_of_row wr b10 1 _ _ _ n10
        obtain ⟨K2, hK2⟩ : ∃ x, gatherS K ((lnsX L).take k) p = x := ⟨_, rfl⟩
        have hkb := HKL.out k hk
        rw [hK2] at hT7 hkb ⊢
        have hLq := HL4.out.below hbq
        by_cases hlt : k < L.length
        · obtain ⟨x, hx⟩ : ∃ x, L[k]? = some x := ⟨_, List.getElem?_eq_getElem hlt⟩
          obtain ⟨g, o, hA, hrow⟩ := hLq.row (by omega)
          subst hA
          have c12 := hrow k x hx
          have hxm := List.mem_of_getElem? hx
          have hown := (hLq.own x hxm).1
          have hxo := HOK.out.1 x.ln (List.mem_map.2 ⟨x, hxm, rfl⟩)
          obtain ⟨xg, xA, xc, xns⟩ := x
          obtain ⟨ok1, ok2, _⟩ := hxo
          have ok1 : xg.size ≤ 16384 := by have : xg.data.toList.length ≤ 16384 := ok1; rwa [Array.length_toList] at this
          have ok2 : xns.length ≤ 16385 := ok2
          have hsn : (lnsX L).take (k + 1) = (lnsX L).take k ++ [(⟨xg, xA, xc, xns⟩ : LX).ln] := by rw [List.take_add_one, lnsX_getElem?, hx]; rfl
          have hgs : gatherS K ((lnsX L).take (k + 1)) p = if xg.data.toList.isEmpty || p xg.data.toList then xns.foldl addS K2 else K2 := by rw [hsn, gatherS_snoc, hK2]; rfl
          have HSN := Lib.hid hgs
          have hkd1 : K2.length + 16385 ≤ 1000000000000 := by omega
          have HKB : Hid (K2.length + xns.length ≤ 1000000000000) := by unfold Hid; omega
          have hb12 := below_new' wr (.cells #[.string xg, .slice xA xns.length xc] 62)
          have hn13 := heap_alloc_new wr (.cells #[.string xg, .slice xA xns.length xc] 62)
          obtain ⟨d1, d2⟩ := c12
          have k1 : (k : Int) < (L.length : Int) := by omega
          have HT2 := Lib.hid (hT7.below hb12)
          have HOW := Lib.hid (hown.below hb12)
          have HB12 := Lib.hid (hbq.trans (hb12.mono hbq.size))
          have HN13 := Lib.hid hn13
          clear hgs hsn hown hrow hx hxm hLq hT7 hbq n10 hb12 hn13 hK2
          have hdh : d.size ≤ 1000 := by omega
          have HMATCH := Lib.hid (fun W => refmatch_any xg (mkB base) W (by omega) (by rw [mkB_size]; omega))
          rw [mkB_data] at HMATCH
          go_upto_region 13 with (fail)
          obtain ⟨W12, hW12⟩ : ∃ x, wr.alloc (.cells #[.string xg, .slice xA xns.length xc] 62) = x := ⟨_, rfl⟩
          rw [hW12] at HT2 HOW HB12 HN13 ⊢
          obtain ⟨b13, hb13⟩ : ∃ x, wr.heap.size = x := ⟨_, rfl⟩
          rw [hb13] at HN13 ⊢
          have c0 := cell_of_row W12 b13 0 _ _ _ HN13.out
          have c1 := cell_of_row W12 b13 1 _ _ _ HN13.out
          clear hW12 hb13 d1 d2
          by_cases hge : xg.toList = []
          · have g1 : (!xg.toList.isEmpty) = false := by simp [hge]
            have g2 : xg.toList.isEmpty = true := by simp [hge]
            have HMT : Hid ((xg.data.toList.isEmpty || p xg.data.toList) = true) := by unfold Hid; rw [← ByteArray.toList_eq, hge]; rfl
            clear HMATCH
            go_quiet (fail)
            have hbW := belowQ (Below.refl W12.heap.size W12) nq
            obtain ⟨WX, hWX⟩ : ∃ x, W12.drewN nq = x := ⟨_, rfl⟩
            rw [hWX] at hbW ⊢
            have HBW := Lib.hid hbW
            clear hbW hWX
            have hbW : Below W12.heap.size W12 WX := HBW.out
            have n13 := row_below' HN13.out hbW
            have hT13 := HT2.out.below hbW
            have hO13 := HOW.out.below hbW
            have hB13 := HB12.out.trans (hbW.mono HB12.out.size)
            have N13 := Lib.hid n13
            have HT13 := Lib.hid hT13
            have HO13 := Lib.hid hO13
            have HB13 := Lib.hid hB13
            clear n13 hT13 hO13 hB13 hbW
            go_wp2_with fail
            go_loopw [6, 15] (fun v6 v15 wr => ∃ (j : Nat) (A8 : Option Addr) (c8 : Nat), j ≤ xns.length ∧ v15 = .int .i64 j ∧ v6 = .slice A8 ((xns.take j).foldl addS K2).length c8 ∧ TxAt wr A8 c8 ((xns.take j).foldl addS K2) ∧ Below WX.heap.size WX wr) (fun _ v15 _ => xns.length - (intOf v15).toNat)
            case atStart => exact ⟨0, _, _, Nat.zero_le _, rfl, rfl, HT13.out, Below.refl _ _⟩
            case round =>
              obtain ⟨j, A8, c8, hj, rfl, rfl, hT8, hbz⟩ := hrel
              obtain ⟨K3, hK3⟩ : ∃ x, (xns.take j).foldl addS K2 = x := ⟨_, rfl⟩
              have hfl : K3.length ≤ K2.length + xns.length := by
                rw [← hK3]
                have := foldS_len (xns.take j) K2
                have := List.length_take_le j xns; omega
              rw [hK3] at hT8 ⊢
              have n13 := row_below' N13.out hbz
              have c1 := cell_of_row wr b13 1 _ _ _ n13
              have hoz := HO13.out.below hbz
              have hBz := HB13.out.trans (hbz.mono HB13.out.size)
              by_cases hjl : j < xns.length
              · obtain ⟨y, hy⟩ : ∃ y, xns[j]? = some y := ⟨_, List.getElem?_eq_getElem hjl⟩
                obtain ⟨g2, o2, hA2, hc2⟩ := hoz (by omega)
                subst hA2
                have c2 := hc2 j y hy
                have hfs : (xns.take (j + 1)).foldl addS K2 = addS K3 y := by rw [List.take_add_one, hy, List.foldl_append, hK3]; rfl
                have HADD := Lib.hid (refadd_any K3 A8 c8 (mkB y) wr hT8.at_ hT8.cap hT8.capm (by have := HKB.out; omega) hT8.zero)
                rw [mkB_data] at HADD
                have HFS := Lib.hid hfs
                have HBZ := Lib.hid hbz
                have j1 : (j : Int) < (xns.length : Int) := by omega
                clear hfs hc2 hy hK3 hT8 n13 hoz hbz hBz hfl
                go_wp2_with fail
                refine HADD.out.mono ?_
                rintro e w9 ⟨A9, c9, rfl, hs9, hc9, hm9, hb9⟩
                have HS9 := Lib.hid hs9
                have HC9 := Lib.hid hc9
                have HB9 := Lib.hid (HBZ.out.trans (hb9.mono HBZ.out.size))
                clear hs9 hc9 hb9
                go_wp2_with fail
                go_roundw
                case rel => exact ⟨j + 1, A9, c9, by omega, by go_num, by rw [HFS.out], by rw [HFS.out]; exact ⟨HS9.out, HC9.out, hm9, fun h => absurd h (addS_ne _ _)⟩, HB9.out⟩
                case measure => simp [intOf]; omega
              · obtain rfl : j = xns.length := by omega
                rw [List.take_of_length_le (Nat.le_refl _)] at hK3
                have hg2 : gatherS K ((lnsX L).take (k + 1)) p = K3 := by rw [HSN.out, if_pos HMT.out, hK3]
                have HG2 := Lib.hid hg2
                have HT8 := Lib.hid hT8
                have HBZ := Lib.hid hBz
                clear hg2 hT8 hBz hbz hoz n13 hK3 hfl
                go_wp2_with fail
                go_roundw
                case rel => exact ⟨k + 1, A8, c8, by omega, by go_num, by rw [HG2.out], by rw [HG2.out]; exact HT8.out, HBZ.out⟩
                case measure => simp [intOf]; omega
          · have g1 : (!xg.toList.isEmpty) = true := by
              cases e : xg.toList with
              | nil => exact absurd e hge
              | cons _ _ => rfl
            have g2 : xg.toList.isEmpty = false := by simpa using hge
            have hge2 : xg.data.toList.isEmpty = false := by rw [← ByteArray.toList_eq]; exact g2
            clear hge
            by_cases hdh2 : d.data.toList = home
            · have hde : d = mkB home := by rw [← hdh2, data_mkB]
              have hpx : p xg.data.toList = matchB xg.data.toList base := by rw [← HPP.out]; unfold askB; rw [hdh2]; simp
              cases hmm : matchB xg.data.toList base with
              | true =>
                have HMM := Lib.hid hmm
                have HMT : Hid ((xg.data.toList.isEmpty || p xg.data.toList) = true) := by unfold Hid; rw [hpx, hmm]; simp
                have hde2 : (d.toList == (mkB home).toList) = true := by rw [hde]; simp
                clear hmm hpx hge2 hdh2 hde
                refine wp_region_held_drew (S := (fun w' => w'.cell? ⟨b13, 0, none⟩ = some (.string xg) ∧ w'.cell? ⟨b13, 1, none⟩ = some (.slice xA xns.length xc))) (by kernel_rfl) ⟨c0, c1⟩ (fun hHeld => ?_)
                refine wpAnyH_take (i := 0) (v := ?vu0) rfl (by kernel_rfl) (by kernel_rfl) (by kernel_rfl) (fun _ _ _ h => h) (Or.inl ⟨by rfl, ?yu0⟩) (by assumption) ?ru0
                case yu0 =>
                  intro w hSw
                  (try dsimp only at hSw)
                  go_simp
                  first | done | with_reducible rfl
                try simp only [Act.put, List.getElem_toArray, List.getElem_cons_zero, List.setIfInBounds_toArray, List.set_cons_zero, List.set_cons_succ]
                refine wpAnyH_take (i := 1) (v := ?vu1) rfl (by kernel_rfl) (by kernel_rfl) (by kernel_rfl) (fun _ _ _ h => h) (Or.inl ⟨by rfl, ?yu1⟩) (by assumption) ?ru1
                case yu1 =>
                  intro w hSw
                  (try dsimp only at hSw)
                  go_simp
                  first | done | with_reducible rfl
                try simp only [Act.put, List.getElem_toArray, List.getElem_cons_zero, List.getElem_cons_succ, List.setIfInBounds_toArray, List.set_cons_zero, List.set_cons_succ]
                refine wpAnyH_take (i := 2) (v := ?vu2) rfl (by kernel_rfl) (by kernel_rfl) (by kernel_rfl) (fun _ _ _ h => h) (Or.inl ⟨by rfl, ?yu2⟩) (by assumption) ?ru2
                case yu2 =>
                  intro w hSw
                  (try dsimp only at hSw)
                  go_simp
                  first | done | with_reducible rfl
                try simp only [Act.put, List.getElem_toArray, List.getElem_cons_zero, List.getElem_cons_succ, List.setIfInBounds_toArray, List.set_cons_zero, List.set_cons_succ]
                refine wpAnyH_take (i := 3) (v := ?vu3) rfl (by kernel_rfl) (by kernel_rfl) (by kernel_rfl) (fun _ _ _ h => h) (Or.inl ⟨by rfl, ?yu3⟩) (by assumption) ?ru3
                case yu3 =>
                  intro w hSw
                  (try dsimp only at hSw)
                  go_simp
                  first | done | with_reducible rfl
                try simp only [Act.put, List.getElem_toArray, List.getElem_cons_zero, List.getElem_cons_succ, List.setIfInBounds_toArray, List.set_cons_zero, List.set_cons_succ]
                refine wpAnyH_take (i := 4) (v := ?vu4) rfl (by kernel_rfl) (by kernel_rfl) (by kernel_rfl) (fun _ _ _ h => h) (Or.inl ⟨by rfl, ?yu4⟩) (by assumption) ?ru4
                case yu4 =>
                  intro w hSw
                  (try dsimp only at hSw)
                  go_simp
                  first | done | with_reducible rfl
                try simp only [Act.put, List.getElem_toArray, List.getElem_cons_zero, List.getElem_cons_succ, List.setIfInBounds_toArray, List.set_cons_zero, List.set_cons_succ]
                refine wpAnyH_take (i := 5) (v := ?vu5) rfl (by kernel_rfl) (by kernel_rfl) (by kernel_rfl) (fun _ _ _ h => h) (Or.inl ⟨by rfl, ?yu5⟩) (by assumption) ?ru5
                case yu5 =>
                  intro w hSw
                  (try dsimp only at hSw)
                  go_simp
                  first | done | with_reducible rfl
                try simp only [Act.put, List.getElem_toArray, List.getElem_cons_zero, List.getElem_cons_succ, List.setIfInBounds_toArray, List.set_cons_zero, List.set_cons_succ]
                refine wpAnyH_ready (rs := [6]) (by kernel_rfl) (by simp) ?_
                refine AllReadyH.cons rfl (fun K hK => ?_) AllReadyH.nil
                go_simp
                refine (HDIR.out _).mono ?_
                rintro e w6 ⟨rfl, hw⟩
                have hw := hw.symm
                subst hw
                go_wp2_with fail
                refine hK.out _ _ hHeld (fun hHeld => ?_)
                clear hK K
                try simp only [Act.put, List.getElem_toArray, List.getElem_cons_zero, List.getElem_cons_succ, List.setIfInBounds_toArray, List.set_cons_zero, List.set_cons_succ]
                refine wpAnyH_take (i := 7) (v := ?vu7) rfl (by kernel_rfl) (by kernel_rfl) (by kernel_rfl) (fun _ _ _ h => h) (Or.inl ⟨by rfl, ?yu7⟩) (by assumption) ?ru7
                case yu7 =>
                  intro w hSw
                  (try dsimp only at hSw)
                  go_simp
                  first | done | with_reducible rfl
                try simp only [Act.put, List.getElem_toArray, List.getElem_cons_zero, List.getElem_cons_succ, List.setIfInBounds_toArray, List.set_cons_zero, List.set_cons_succ]
                refine wpAnyH_take (i := 8) (v := ?vu8) rfl (by kernel_rfl) (by kernel_rfl) (by kernel_rfl) (fun _ _ _ h => h) (Or.inl ⟨by rfl, ?yu8⟩) (by assumption) ?ru8
                case yu8 =>
                  intro w hSw
                  (try dsimp only at hSw)
                  go_simp
                  first | done | with_reducible rfl
                try simp only [Act.put, List.getElem_toArray, List.getElem_cons_zero, List.getElem_cons_succ, List.setIfInBounds_toArray, List.set_cons_zero, List.set_cons_succ]
                refine wpAnyH_take (i := 9) (v := ?vu9) rfl (by kernel_rfl) (by kernel_rfl) (by kernel_rfl) (fun _ _ _ h => h) (Or.inl ⟨by rfl, ?yu9⟩) (by assumption) ?ru9
                case yu9 =>
                  intro w hSw
                  (try dsimp only at hSw)
                  go_simp
                  first | done | with_reducible rfl
                try simp only [Act.put, List.getElem_toArray, List.getElem_cons_zero, List.getElem_cons_succ, List.setIfInBounds_toArray, List.set_cons_zero, List.set_cons_succ]
                refine wpAnyH_take (i := 10) (v := ?vu10) rfl (by kernel_rfl) (by kernel_rfl) (by kernel_rfl) (fun _ _ _ h => h) (Or.inl ⟨by rfl, ?yu10⟩) (by assumption) ?ru10
                case yu10 =>
                  intro w hSw
                  (try dsimp only at hSw)
                  go_simp
                  first | done | with_reducible rfl
                try simp only [Act.put, List.getElem_toArray, List.getElem_cons_zero, List.getElem_cons_succ, List.setIfInBounds_toArray, List.set_cons_zero, List.set_cons_succ]
                refine wpAnyH_take (i := 11) (v := ?vu11) rfl (by kernel_rfl) (by kernel_rfl) (by kernel_rfl) (fun _ _ _ h => h) (Or.inl ⟨by rfl, ?yu11⟩) (by assumption) ?ru11
                case yu11 =>
                  intro w hSw
                  (try dsimp only at hSw)
                  go_simp
                  first | done | with_reducible rfl
                try simp only [Act.put, List.getElem_toArray, List.getElem_cons_zero, List.getElem_cons_succ, List.setIfInBounds_toArray, List.set_cons_zero, List.set_cons_succ]
                refine wpAnyH_ready (rs := [12]) (by kernel_rfl) (by simp) ?_
                refine AllReadyH.cons rfl (fun K hK => ?_) AllReadyH.nil
                go_simp
                refine (HBASE.out _).mono ?_
                rintro e w6 ⟨rfl, hw⟩
                have hw := hw.symm
                subst hw
                go_wp2_with fail
                refine hK.out _ _ hHeld (fun hHeld => ?_)
                clear hK K
                try simp only [Act.put, List.getElem_toArray, List.getElem_cons_zero, List.getElem_cons_succ, List.setIfInBounds_toArray, List.set_cons_zero, List.set_cons_succ]
                refine wpAnyH_ready (rs := [13]) (by kernel_rfl) (by simp) ?_
                refine AllReadyH.cons rfl (fun K hK => ?_) AllReadyH.nil
                go_simp
                refine (HMATCH.out _).mono ?_
                rintro e w7 ⟨rfl, hb7⟩
                rw [HMM.out]
                have k0 := cell_of_row w7 b13 0 _ _ _ (row_below' (W := W12.drew) HN13.out hb7)
                have k1 := cell_of_row w7 b13 1 _ _ _ (row_below' (W := W12.drew) HN13.out hb7)
                have HB7 := Lib.hid hb7
                clear hb7
                go_wp2_with fail
                refine hK.out _ _ ⟨k0, k1⟩ (fun hHeld => ?_)
                clear hK K
                try simp only [Act.put, List.getElem_toArray, List.getElem_cons_zero, List.getElem_cons_succ, List.setIfInBounds_toArray, List.set_cons_zero, List.set_cons_succ]
                refine wpAnyH_take (i := 14) (v := ?vu14) rfl (by kernel_rfl) (by kernel_rfl) (by kernel_rfl) (fun _ _ _ h => h) (Or.inl ⟨by rfl, ?yu14⟩) (by assumption) ?ru14
                case yu14 =>
                  intro w hSw
                  (try dsimp only at hSw)
                  go_simp
                  first | done | with_reducible rfl
                try simp only [Act.put, List.getElem_toArray, List.getElem_cons_zero, List.getElem_cons_succ, List.setIfInBounds_toArray, List.set_cons_zero, List.set_cons_succ]
                refine wpAnyH_take (i := 15) (v := ?vu15) rfl (by kernel_rfl) (by kernel_rfl) (by kernel_rfl) (fun _ _ _ h => h) (Or.inl ⟨by rfl, ?yu15⟩) (by assumption) ?ru15
                case yu15 =>
                  intro w hSw
                  (try dsimp only at hSw)
                  go_simp
                  first | done | with_reducible rfl
                try simp only [Act.put, List.getElem_toArray, List.getElem_cons_zero, List.getElem_cons_succ, List.setIfInBounds_toArray, List.set_cons_zero, List.set_cons_succ]
                refine wpAnyH_take (i := 16) (v := ?vu16) rfl (by kernel_rfl) (by kernel_rfl) (by kernel_rfl) (fun _ _ _ h => h) (Or.inl ⟨by rfl, ?yu16⟩) (by assumption) ?ru16
                case yu16 =>
                  intro w hSw
                  (try dsimp only at hSw)
                  go_simp
                  first | done | with_reducible rfl
                try simp only [Act.put, List.getElem_toArray, List.getElem_cons_zero, List.getElem_cons_succ, List.setIfInBounds_toArray, List.set_cons_zero, List.set_cons_succ]
                refine wpAnyH_done (by kernel_rfl) ?_ _
                have hbW : Below W12.heap.size W12 w7 := (⟨rfl, rfl, rfl, Nat.le_refl _, fun _ _ => rfl⟩ : Below W12.heap.size W12 W12.drew).trans HB7.out
                have n13 := row_below' HN13.out hbW
                have hT13 := HT2.out.below hbW
                have hO13 := HOW.out.below hbW
                have hB13 := HB12.out.trans (hbW.mono HB12.out.size)
                have N13 := Lib.hid n13
                have HT13 := Lib.hid hT13
                have HO13 := Lib.hid hO13
                have HB13 := Lib.hid hB13
                clear n13 hT13 hO13 hB13 hbW
                go_wp2_with fail
                go_loopw [6, 15] (fun v6 v15 wr => ∃ (j : Nat) (A8 : Option Addr) (c8 : Nat), j ≤ xns.length ∧ v15 = .int .i64 j ∧ v6 = .slice A8 ((xns.take j).foldl addS K2).length c8 ∧ TxAt wr A8 c8 ((xns.take j).foldl addS K2) ∧ Below w7.heap.size w7 wr) (fun _ v15 _ => xns.length - (intOf v15).toNat)
                case atStart => exact ⟨0, _, _, Nat.zero_le _, rfl, rfl, HT13.out, Below.refl _ _⟩
                case round =>
                  obtain ⟨j, A8, c8, hj, rfl, rfl, hT8, hbz⟩ := hrel
                  obtain ⟨K3, hK3⟩ : ∃ x, (xns.take j).foldl addS K2 = x := ⟨_, rfl⟩
                  have hfl : K3.length ≤ K2.length + xns.length := by
                    rw [← hK3]
                    have := foldS_len (xns.take j) K2
                    have := List.length_take_le j xns; omega
                  rw [hK3] at hT8 ⊢
                  have n13 := row_below' N13.out hbz
                  have c1 := cell_of_row wr b13 1 _ _ _ n13
                  have hoz := HO13.out.below hbz
                  have hBz := HB13.out.trans (hbz.mono HB13.out.size)
                  by_cases hjl : j < xns.length
                  · obtain ⟨y, hy⟩ : ∃ y, xns[j]? = some y := ⟨_, List.getElem?_eq_getElem hjl⟩
                    obtain ⟨g2, o2, hA2, hc2⟩ := hoz (by omega)
                    subst hA2
                    have c2 := hc2 j y hy
                    have hfs : (xns.take (j + 1)).foldl addS K2 = addS K3 y := by rw [List.take_add_one, hy, List.foldl_append, hK3]; rfl
                    have HADD := Lib.hid (refadd_any K3 A8 c8 (mkB y) wr hT8.at_ hT8.cap hT8.capm (by have := HKB.out; omega) hT8.zero)
                    rw [mkB_data] at HADD
                    have HFS := Lib.hid hfs
                    have HBZ := Lib.hid hbz
                    have j1 : (j : Int) < (xns.length : Int) := by omega
                    clear hfs hc2 hy hK3 hT8 n13 hoz hbz hBz hfl
                    go_wp2_with fail
                    refine HADD.out.mono ?_
                    rintro e w9 ⟨A9, c9, rfl, hs9, hc9, hm9, hb9⟩
                    have HS9 := Lib.hid hs9
                    have HC9 := Lib.hid hc9
                    have HB9 := Lib.hid (HBZ.out.trans (hb9.mono HBZ.out.size))
                    clear hs9 hc9 hb9
                    go_wp2_with fail
                    go_roundw
                    case rel => exact ⟨j + 1, A9, c9, by omega, by go_num, by rw [HFS.out], by rw [HFS.out]; exact ⟨HS9.out, HC9.out, hm9, fun h => absurd h (addS_ne _ _)⟩, HB9.out⟩
                    case measure => simp [intOf]; omega
                  · obtain rfl : j = xns.length := by omega
                    rw [List.take_of_length_le (Nat.le_refl _)] at hK3
                    have hg2 : gatherS K ((lnsX L).take (k + 1)) p = K3 := by rw [HSN.out, if_pos HMT.out, hK3]
                    have HG2 := Lib.hid hg2
                    have HT8 := Lib.hid hT8
                    have HBZ := Lib.hid hBz
                    clear hg2 hT8 hBz hbz hoz n13 hK3 hfl
                    go_wp2_with fail
                    go_roundw
                    case rel => exact ⟨k + 1, A8, c8, by omega, by go_num, by rw [HG2.out], by rw [HG2.out]; exact HT8.out, HBZ.out⟩
                    case measure => simp [intOf]; omega
              | false =>
                have HMM := Lib.hid hmm
                have HMT : Hid ((xg.data.toList.isEmpty || p xg.data.toList) = false) := by unfold Hid; rw [hpx, hmm, hge2]; rfl
                have hde2 : (d.toList == (mkB home).toList) = true := by rw [hde]; simp
                clear hmm hpx hge2 hdh2 hde
                refine wp_region_held_drew (S := (fun w' => w'.cell? ⟨b13, 0, none⟩ = some (.string xg) ∧ w'.cell? ⟨b13, 1, none⟩ = some (.slice xA xns.length xc))) (by kernel_rfl) ⟨c0, c1⟩ (fun hHeld => ?_)
                refine wpAnyH_take (i := 0) (v := ?vv0) rfl (by kernel_rfl) (by kernel_rfl) (by kernel_rfl) (fun _ _ _ h => h) (Or.inl ⟨by rfl, ?yv0⟩) (by assumption) ?rv0
                case yv0 =>
                  intro w hSw
                  (try dsimp only at hSw)
                  go_simp
                  first | done | with_reducible rfl
                try simp only [Act.put, List.getElem_toArray, List.getElem_cons_zero, List.setIfInBounds_toArray, List.set_cons_zero, List.set_cons_succ]
                refine wpAnyH_take (i := 1) (v := ?vv1) rfl (by kernel_rfl) (by kernel_rfl) (by kernel_rfl) (fun _ _ _ h => h) (Or.inl ⟨by rfl, ?yv1⟩) (by assumption) ?rv1
                case yv1 =>
                  intro w hSw
                  (try dsimp only at hSw)
                  go_simp
                  first | done | with_reducible rfl
                try simp only [Act.put, List.getElem_toArray, List.getElem_cons_zero, List.getElem_cons_succ, List.setIfInBounds_toArray, List.set_cons_zero, List.set_cons_succ]
                refine wpAnyH_take (i := 2) (v := ?vv2) rfl (by kernel_rfl) (by kernel_rfl) (by kernel_rfl) (fun _ _ _ h => h) (Or.inl ⟨by rfl, ?yv2⟩) (by assumption) ?rv2
                case yv2 =>
                  intro w hSw
                  (try dsimp only at hSw)
                  go_simp
                  first | done | with_reducible rfl
                try simp only [Act.put, List.getElem_toArray, List.getElem_cons_zero, List.getElem_cons_succ, List.setIfInBounds_toArray, List.set_cons_zero, List.set_cons_succ]
                refine wpAnyH_take (i := 3) (v := ?vv3) rfl (by kernel_rfl) (by kernel_rfl) (by kernel_rfl) (fun _ _ _ h => h) (Or.inl ⟨by rfl, ?yv3⟩) (by assumption) ?rv3
                case yv3 =>
                  intro w hSw
                  (try dsimp only at hSw)
                  go_simp
                  first | done | with_reducible rfl
                try simp only [Act.put, List.getElem_toArray, List.getElem_cons_zero, List.getElem_cons_succ, List.setIfInBounds_toArray, List.set_cons_zero, List.set_cons_succ]
                refine wpAnyH_take (i := 4) (v := ?vv4) rfl (by kernel_rfl) (by kernel_rfl) (by kernel_rfl) (fun _ _ _ h => h) (Or.inl ⟨by rfl, ?yv4⟩) (by assumption) ?rv4
                case yv4 =>
                  intro w hSw
                  (try dsimp only at hSw)
                  go_simp
                  first | done | with_reducible rfl
                try simp only [Act.put, List.getElem_toArray, List.getElem_cons_zero, List.getElem_cons_succ, List.setIfInBounds_toArray, List.set_cons_zero, List.set_cons_succ]
                refine wpAnyH_take (i := 5) (v := ?vv5) rfl (by kernel_rfl) (by kernel_rfl) (by kernel_rfl) (fun _ _ _ h => h) (Or.inl ⟨by rfl, ?yv5⟩) (by assumption) ?rv5
                case yv5 =>
                  intro w hSw
                  (try dsimp only at hSw)
                  go_simp
                  first | done | with_reducible rfl
                try simp only [Act.put, List.getElem_toArray, List.getElem_cons_zero, List.getElem_cons_succ, List.setIfInBounds_toArray, List.set_cons_zero, List.set_cons_succ]
                refine wpAnyH_ready (rs := [6]) (by kernel_rfl) (by simp) ?_
                refine AllReadyH.cons rfl (fun K hK => ?_) AllReadyH.nil
                go_simp
                refine (HDIR.out _).mono ?_
                rintro e w6 ⟨rfl, hw⟩
                have hw := hw.symm
                subst hw
                go_wp2_with fail
                refine hK.out _ _ hHeld (fun hHeld => ?_)
                clear hK K
                try simp only [Act.put, List.getElem_toArray, List.getElem_cons_zero, List.getElem_cons_succ, List.setIfInBounds_toArray, List.set_cons_zero, List.set_cons_succ]
                refine wpAnyH_take (i := 7) (v := ?vv7) rfl (by kernel_rfl) (by kernel_rfl) (by kernel_rfl) (fun _ _ _ h => h) (Or.inl ⟨by rfl, ?yv7⟩) (by assumption) ?rv7
                case yv7 =>
                  intro w hSw
                  (try dsimp only at hSw)
                  go_simp
                  first | done | with_reducible rfl
                try simp only [Act.put, List.getElem_toArray, List.getElem_cons_zero, List.getElem_cons_succ, List.setIfInBounds_toArray, List.set_cons_zero, List.set_cons_succ]
                refine wpAnyH_take (i := 8) (v := ?vv8) rfl (by kernel_rfl) (by kernel_rfl) (by kernel_rfl) (fun _ _ _ h => h) (Or.inl ⟨by rfl, ?yv8⟩) (by assumption) ?rv8
                case yv8 =>
                  intro w hSw
                  (try dsimp only at hSw)
                  go_simp
                  first | done | with_reducible rfl
                try simp only [Act.put, List.getElem_toArray, List.getElem_cons_zero, List.getElem_cons_succ, List.setIfInBounds_toArray, List.set_cons_zero, List.set_cons_succ]
                refine wpAnyH_take (i := 9) (v := ?vv9) rfl (by kernel_rfl) (by kernel_rfl) (by kernel_rfl) (fun _ _ _ h => h) (Or.inl ⟨by rfl, ?yv9⟩) (by assumption) ?rv9
                case yv9 =>
                  intro w hSw
                  (try dsimp only at hSw)
                  go_simp
                  first | done | with_reducible rfl
                try simp only [Act.put, List.getElem_toArray, List.getElem_cons_zero, List.getElem_cons_succ, List.setIfInBounds_toArray, List.set_cons_zero, List.set_cons_succ]
                refine wpAnyH_take (i := 10) (v := ?vv10) rfl (by kernel_rfl) (by kernel_rfl) (by kernel_rfl) (fun _ _ _ h => h) (Or.inl ⟨by rfl, ?yv10⟩) (by assumption) ?rv10
                case yv10 =>
                  intro w hSw
                  (try dsimp only at hSw)
                  go_simp
                  first | done | with_reducible rfl
                try simp only [Act.put, List.getElem_toArray, List.getElem_cons_zero, List.getElem_cons_succ, List.setIfInBounds_toArray, List.set_cons_zero, List.set_cons_succ]
                refine wpAnyH_take (i := 11) (v := ?vv11) rfl (by kernel_rfl) (by kernel_rfl) (by kernel_rfl) (fun _ _ _ h => h) (Or.inl ⟨by rfl, ?yv11⟩) (by assumption) ?rv11
                case yv11 =>
                  intro w hSw
                  (try dsimp only at hSw)
                  go_simp
                  first | done | with_reducible rfl
                try simp only [Act.put, List.getElem_toArray, List.getElem_cons_zero, List.getElem_cons_succ, List.setIfInBounds_toArray, List.set_cons_zero, List.set_cons_succ]
                refine wpAnyH_ready (rs := [12]) (by kernel_rfl) (by simp) ?_
                refine AllReadyH.cons rfl (fun K hK => ?_) AllReadyH.nil
                go_simp
                refine (HBASE.out _).mono ?_
                rintro e w6 ⟨rfl, hw⟩
                have hw := hw.symm
                subst hw
                go_wp2_with fail
                refine hK.out _ _ hHeld (fun hHeld => ?_)
                clear hK K
                try simp only [Act.put, List.getElem_toArray, List.getElem_cons_zero, List.getElem_cons_succ, List.setIfInBounds_toArray, List.set_cons_zero, List.set_cons_succ]
                refine wpAnyH_ready (rs := [13]) (by kernel_rfl) (by simp) ?_
                refine AllReadyH.cons rfl (fun K hK => ?_) AllReadyH.nil
                go_simp
                refine (HMATCH.out _).mono ?_
                rintro e w7 ⟨rfl, hb7⟩
                rw [HMM.out]
                have k0 := cell_of_row w7 b13 0 _ _ _ (row_below' (W := W12.drew) HN13.out hb7)
                have k1 := cell_of_row w7 b13 1 _ _ _ (row_below' (W := W12.drew) HN13.out hb7)
                have HB7 := Lib.hid hb7
                clear hb7
                go_wp2_with fail
                refine hK.out _ _ ⟨k0, k1⟩ (fun hHeld => ?_)
                clear hK K
                try simp only [Act.put, List.getElem_toArray, List.getElem_cons_zero, List.getElem_cons_succ, List.setIfInBounds_toArray, List.set_cons_zero, List.set_cons_succ]
                refine wpAnyH_take (i := 14) (v := ?vv14) rfl (by kernel_rfl) (by kernel_rfl) (by kernel_rfl) (fun _ _ _ h => h) (Or.inl ⟨by rfl, ?yv14⟩) (by assumption) ?rv14
                case yv14 =>
                  intro w hSw
                  (try dsimp only at hSw)
                  go_simp
                  first | done | with_reducible rfl
                try simp only [Act.put, List.getElem_toArray, List.getElem_cons_zero, List.getElem_cons_succ, List.setIfInBounds_toArray, List.set_cons_zero, List.set_cons_succ]
                refine wpAnyH_take (i := 15) (v := ?vv15) rfl (by kernel_rfl) (by kernel_rfl) (by kernel_rfl) (fun _ _ _ h => h) (Or.inl ⟨by rfl, ?yv15⟩) (by assumption) ?rv15
                case yv15 =>
                  intro w hSw
                  (try dsimp only at hSw)
                  go_simp
                  first | done | with_reducible rfl
                try simp only [Act.put, List.getElem_toArray, List.getElem_cons_zero, List.getElem_cons_succ, List.setIfInBounds_toArray, List.set_cons_zero, List.set_cons_succ]
                refine wpAnyH_take (i := 16) (v := ?vv16) rfl (by kernel_rfl) (by kernel_rfl) (by kernel_rfl) (fun _ _ _ h => h) (Or.inl ⟨by rfl, ?yv16⟩) (by assumption) ?rv16
                case yv16 =>
                  intro w hSw
                  (try dsimp only at hSw)
                  go_simp
                  first | done | with_reducible rfl
                try simp only [Act.put, List.getElem_toArray, List.getElem_cons_zero, List.getElem_cons_succ, List.setIfInBounds_toArray, List.set_cons_zero, List.set_cons_succ]
                refine wpAnyH_done (by kernel_rfl) ?_ _
                have hbW : Below W12.heap.size W12 w7 := (⟨rfl, rfl, rfl, Nat.le_refl _, fun _ _ => rfl⟩ : Below W12.heap.size W12 W12.drew).trans HB7.out
                have n13 := row_below' HN13.out hbW
                have hT13 := HT2.out.below hbW
                have hB13 := HB12.out.trans (hbW.mono HB12.out.size)
                have hg2 : gatherS K ((lnsX L).take (k + 1)) p = K2 := by rw [HSN.out, if_neg (by rw [HMT.out]; simp)]
                have HG2 := Lib.hid hg2
                have N13 := Lib.hid n13
                have HT13 := Lib.hid hT13
                have HB13 := Lib.hid hB13
                clear n13 hT13 hB13 hbW hg2
                go_wp2_with fail
                go_loopw [6, 15] (fun v6 v15 wr => v6 = .slice A7 K2.length c7 ∧ v15 = .int .i64 0 ∧ wr = w7) (fun _ _ _ => 0)
                case atStart => exact ⟨rfl, rfl, rfl⟩
                case round =>
                  obtain ⟨rfl, rfl, rfl⟩ := hrel
                  have c1 := cell_of_row _ b13 1 _ _ _ N13.out
                  by_cases hxl : 0 < xns.length <;>
                  · go_wp2_with fail
                    go_roundw
                    case rel => exact ⟨k + 1, A7, c7, by omega, by go_num, by rw [HG2.out], by rw [HG2.out]; exact HT13.out, HB13.out⟩
                    case measure => simp [intOf]; omega
            · have hde2 : (d.toList == (mkB home).toList) = false := by rw [ByteArray.toList_eq, ByteArray.toList_eq, mkB_data, beq_eq_false_iff_ne]; exact hdh2
              have HMT : Hid ((xg.data.toList.isEmpty || p xg.data.toList) = false) := by
                unfold Hid; rw [← HPP.out, hge2]; unfold askB
                rw [beq_eq_false_iff_ne.2 hdh2]; rfl
              clear hge2 hdh2 HMATCH
              go_quiet ((go_at_call 27; exact Calls.quiet_of_same (HDIR.out _)))
              have hbW := belowQ (Below.refl W12.heap.size W12) nq
              obtain ⟨WX, hWX⟩ : ∃ x, W12.drewN nq = x := ⟨_, rfl⟩
              rw [hWX] at hbW ⊢
              have HBW := Lib.hid hbW
              clear hbW hWX
              have hbW : Below W12.heap.size W12 WX := HBW.out
              have n13 := row_below' HN13.out hbW
              have hT13 := HT2.out.below hbW
              have hB13 := HB12.out.trans (hbW.mono HB12.out.size)
              have hg2 : gatherS K ((lnsX L).take (k + 1)) p = K2 := by rw [HSN.out, if_neg (by rw [HMT.out]; simp)]
              have HG2 := Lib.hid hg2
              have N13 := Lib.hid n13
              have HT13 := Lib.hid hT13
              have HB13 := Lib.hid hB13
              clear n13 hT13 hB13 hbW hg2
              go_wp2_with fail
              go_loopw [6, 15] (fun v6 v15 wr => v6 = .slice A7 K2.length c7 ∧ v15 = .int .i64 0 ∧ wr = WX) (fun _ _ _ => 0)
              case atStart => exact ⟨rfl, rfl, rfl⟩
              case round =>
                obtain ⟨rfl, rfl, rfl⟩ := hrel
                have c1 := cell_of_row _ b13 1 _ _ _ N13.out
                by_cases hxl : 0 < xns.length <;>
                · go_wp2_with fail
                  go_roundw
                  case rel => exact ⟨k + 1, A7, c7, by omega, by go_num, by rw [HG2.out], by rw [HG2.out]; exact HT13.out, HB13.out⟩
                  case measure => simp [intOf]; omega
        · obtain rfl : k = L.length := by omega
          rw [List.take_of_length_le (by rw [lnsX_length]; exact Nat.le_refl _)] at hK2
          have hst := HST.out
          rw [hK2] at hst
          have hBq := HB4.out.trans (hbq.mono HB4.out.size)
          have HT7 := Lib.hid hT7
          have HBQ := Lib.hid hBq
          have HDD := Lib.hid (refdirL_any d)
          cases np with
          | true =>
            rw [if_pos rfl] at hst
            have HS := Lib.hid hst
            clear hst hT7 hBq hbq n10 hLq hK2
            go_wp2_with fail
            go_ret2
            exact ⟨A7, c7, by rw [← HS.out]; rfl, by rw [← HS.out]; exact HT7.out.at_, by rw [← HS.out]; exact HT7.out.cap, HT7.out.capm, HBQ.out⟩
          | false =>
            rw [if_neg (by simp)] at hst
            by_cases hde : d.data.toList = []
            · rw [hde] at hst
              have hst : (0, K2) = r := by rw [← hst]; simp [ofStep]
              have g1 : d.toList.isEmpty = true := by rw [ByteArray.toList_eq, hde]; rfl
              have g2 : d.toList = [] := by rw [ByteArray.toList_eq, hde]
              have HS := Lib.hid hst
              clear hst hT7 hBq hbq n10 hLq hK2 hde
              go_wp2_with fail
              go_ret2
              exact ⟨A7, c7, by rw [← HS.out]; rfl, by rw [← HS.out]; exact HT7.out.at_, by rw [← HS.out]; exact HT7.out.cap, HT7.out.capm, HBQ.out⟩
            · have g1 : d.toList.isEmpty = false := by
                rw [ByteArray.toList_eq]
                cases e : d.data.toList with
                | nil => exact absurd e hde
                | cons _ _ => rfl
              have g3 : d.data.toList.isEmpty = false := by rw [← ByteArray.toList_eq]; exact g1
              rw [g3, if_neg (by simp)] at hst
              have hless := dir_less d hde
              have HS := Lib.hid hst
              have HKB2 := Lib.hid hkb
              clear hst hT7 hBq hbq n10 hLq hK2 hde g3 hkb
              go_wp2_with fail
              refine (HDD.out _ (by omega)).mono ?_
              rintro e w' ⟨rfl, hw⟩
              have hw := hw.symm
              subst hw
              go_wp2_with fail
              go_roundw
              case rel => exact ⟨K2, A7, c7, mkB (dirL d.data.toList), rfl, rfl, HT7.out, by omega, by have := HKB2.out; omega, by rw [mkB_data]; exact HS.out, HBQ.out⟩
              case measure => exact hless
    · rw [if_neg he0] at hst
      have g1 : (e1 != 0) = true := by simpa using he0
      have g2 : (e1 = 0) = False := by simpa using he0
      have HST := Lib.hid hst
      have HB4 := Lib.hid hB4
      clear hst hn4 hL4 hB4 hK4 hov hL hb3 hb4 hok HP HG HJ he1 ho1 hat
      go_wp2_with fail
      go_ret2
      exact ⟨none, 0, by rw [← HST.out]; rfl, by rw [← HST.out]; exact StrsAt.nil _ _, by rw [← HST.out]; exact Nat.zero_le _, Nat.zero_le _, HB4.out⟩
end Go.Proofs.YtkihgbggndikpaaGreatDoor
namespace Go.Proofs.YtkihgbggndikpaaGreatDoor
open Go Go.RowKit Go.Shelf Go.Proofs
attribute [local go_sem] Oper.semAt_some

theorem ofStep_len (t : List Fl) (home base : Bs) : ∀ (ds K : List Bs), (ofStep t home base ds K).2.length ≤ K.length + ds.length * 268468225
  | [], K => by simp [ofStep]
  | d :: ds, K => by
    rw [ofStep_cons]
    have h0 := atT_ok t d
    have h1 := gatherS_bound (askB home base d) (atT t d).2.2 K (fun x hx => (h0.1 x hx).2.1)
    have h2 : (gatherS K (atT t d).2.2 (askB home base d)).length ≤ K.length + 268468225 := by
      have h4 : (atT t d).2.2.length * 16385 ≤ 268468225 := Nat.mul_le_mul_right 16385 h0.2
      exact Nat.le_trans h1 (Nat.add_le_add_left h4 _)
    have h3 := ofStep_len t home base ds (gatherS K (atT t d).2.2 (askB home base d))
    clear h0 h1
    generalize gatherS K (atT t d).2.2 (askB home base d) = G at h2 h3 ⊢
    generalize atT t d = x
    simp only [List.length_cons, Nat.add_mul, Nat.one_mul]
    generalize ds.length * 268468225 = m at h3 ⊢
    split
    · split
      · exact Nat.le_trans h2 (by omega)
      · omega
    · exact Nat.zero_le _
theorem ofT_len (t : List Fl) (s : Bs) (hs : s.length ≤ 1000) : (ofT t s).2.length ≤ 9000000000000 := by
  unfold ofT
  split
  · have h1 := ofStep_len t (dirL s) (baseL s) (ups (dirL s)) []
    have h2 := ups_len (dirL s).length (dirL s) (Nat.le_refl _)
    have h3 : (dirL s).length ≤ s.length := by
      by_cases e : s = []
      · subst e; simp [dirL]
      · exact Nat.le_of_lt (dir_shorter e)
    simp only [List.length_nil] at h1
    omega
  · simp
set_option maxHeartbeats 2000000 in
theorem refof_wrong (l : List FX) (A : Option Addr) (n c : Nat) (s : ByteArray) (w : World) (hs : s.size ≤ 1000) (hr : rightB s.data.toList = false) :
    Calls Tryz.prog 23 #[.slice A n c, .string s] w (TextsPost (ofT (flsX l) s.data.toList) w) := by
  have hof : ofT (flsX l) s.data.toList = (4, []) := by unfold ofT; rw [hr]; rfl
  rw [hof]
  have HR := Lib.hid (refright_any s w (by omega))
  have HR1 := Lib.hid hr
  clear hr hof
  go_enter Tryz.func23, Tryz.ntmps23
  go_wp2_with fail
  refine HR.out.mono ?_
  rintro e w1 ⟨rfl, hb1⟩
  rw [HR1.out]
  have HB1 := Lib.hid hb1
  clear hb1 HR
  go_wp2_with fail
  go_ret2
  exact ⟨none, 0, rfl, StrsAt.nil _ _, Nat.zero_le _, Nat.zero_le _, HB1.out⟩
theorem refof_all (l : List FX) (A : Option Addr) (c : Nat) (s : ByteArray) (w : World) (h : TreeAt w A c l) (hsm : SmallX l) (hb : ∀ x ∈ l, x.b.length ≤ 16384) (hs : s.size ≤ 1000) :
    Calls Tryz.prog 23 #[.slice A l.length c, .string s] w (TextsPost (ofT (flsX l) s.data.toList) w) := by
  cases hr : rightB s.data.toList with
  | true => exact refof_any l A c s w h hsm hb hs hr
  | false => exact refof_wrong l A l.length c s w hs hr

set_option maxRecDepth 100000 in
set_option maxHeartbeats 8000000 in
theorem otells_any (l : List FX) (A : Option Addr) (c : Nat) (s : ByteArray) (w : World) (h : TreeAt w A c l) (hbig : BigX l) (hs : s.size ≤ 1000000000000000) (hm : MaxOk w) (hT : TabsOk w) :
    Calls Tryz.prog 4 #[.slice A l.length c, .string s] w (BoolPost true w) := by
  have HK := Lib.hid (fun (W : World) (hb : Below w.heap.size w W) => oknown_any W (hm.below hb) (hT.below (Nat.le_refl _) hb))
  by_cases h1 : 40 < l.length
  · have g1 : (40 : Int) < (l.length : Int) := by omega
    have HK1 := Lib.hid (HK.out w (Below.refl _ _))
    clear HK h hm hT hbig
    go_enter Tryz.func4, Tryz.ntmps4
    go_wp2_with fail
    refine HK1.out.mono ?_
    rintro e w' ⟨rfl, hb⟩
    go_wp2_with fail
    go_ret
    exact ⟨rfl, hb⟩
  · have g1 : ¬ (40 : Int) < (l.length : Int) := by omega
    have HL := Lib.hid (reflong_any l A c w h (by omega) hbig)
    by_cases h2 : 3000 < longN l
    · have g2 : (3000 : Int) < (longN l : Int) := by omega
      clear h hm hT hbig
      go_enter Tryz.func4, Tryz.ntmps4
      go_wp2_with fail
      refine HL.out.mono ?_
      rintro e w1 ⟨rfl, hb1⟩
      have HK1 := Lib.hid (HK.out w1 hb1)
      have HB1 := Lib.hid hb1
      clear hb1 HL HK
      go_wp2_with fail
      refine HK1.out.mono ?_
      rintro e w' ⟨rfl, hb⟩
      go_wp2_with fail
      go_ret
      exact ⟨rfl, HB1.out.trans (hb.mono HB1.out.size)⟩
    · have g2 : ¬ (3000 : Int) < (longN l : Int) := by omega
      by_cases h3 : 200 < s.size
      · have g3 : (200 : Int) < (s.size : Int) := by omega
        clear h hm hT hbig
        go_enter Tryz.func4, Tryz.ntmps4
        go_wp2_with fail
        refine HL.out.mono ?_
        rintro e w1 ⟨rfl, hb1⟩
        have HK1 := Lib.hid (HK.out w1 hb1)
        have HB1 := Lib.hid hb1
        clear hb1 HL HK
        go_wp2_with fail
        refine HK1.out.mono ?_
        rintro e w' ⟨rfl, hb⟩
        go_wp2_with fail
        go_ret
        exact ⟨rfl, HB1.out.trans (hb.mono HB1.out.size)⟩
      · have g3 : ¬ (200 : Int) < (s.size : Int) := by omega
        have hti : TinyX l := smallL_tiny (by unfold smallL; rw [decide_eq_true (by omega), decide_eq_true (by omega)]; rfl)
        have hbd : ∀ x ∈ l, x.b.length ≤ 16384 := fun x hx => by have := hti.each x hx; omega
        have HO := Lib.hid (fun (W : World) (hb : Below w.heap.size w W) => of_all l A c s W (h.below hb) hti.small (by omega) (hm.below hb) (hT.below (Nat.le_refl _) hb))
        have HR := Lib.hid (fun (W : World) (hb : Below w.heap.size w W) => refof_all l A c s W (h.below hb) hti.small hbd (by omega))
        have hlen := ofT_len (flsX l) s.data.toList (by rw [Array.length_toList]; show s.size ≤ 1000; omega)
        obtain ⟨r, hr⟩ : ∃ r, ofT (flsX l) s.data.toList = r := ⟨_, rfl⟩
        rw [hr] at HO HR hlen
        obtain ⟨r1, r2⟩ := r
        simp only at hlen
        unfold TextsPost at HO HR
        simp only at HO HR
        clear h hm hT hbig hr hti hbd
        go_enter Tryz.func4, Tryz.ntmps4
        go_wp2_with fail
        refine HL.out.mono ?_
        rintro e w1 ⟨rfl, hb1⟩
        have HB1 := Lib.hid hb1
        clear hb1 HL
        go_wp2_with fail
        refine (HO.out w1 HB1.out).mono ?_
        rintro e w2 ⟨A2, c2, rfl, hs2, hc2, hm2, hb2⟩
        have HB2 := Lib.hid (HB1.out.trans (hb2.mono HB1.out.size))
        have HS2 := Lib.hid hs2
        clear hs2 hb2
        go_wp2_with fail
        refine (HR.out w2 HB2.out).mono ?_
        rintro e w3 ⟨A3, c3, rfl, hs3, hc3, hm3, hb3⟩
        have HSM := Lib.hid (sametexts_any r2 r2 A2 A3 c2 c3 w3 (HS2.out.below hb3) hs3 hlen hlen)
        rw [decide_eq_true rfl] at HSM
        have HB3 := Lib.hid (HB2.out.trans (hb3.mono HB2.out.size))
        clear hs3 hb3 HO HR
        go_wp2_with fail
        refine HSM.out.mono ?_
        rintro e w4 ⟨rfl, hb4⟩
        have hB4 := HB3.out.trans (hb4.mono HB3.out.size)
        have HK4 := Lib.hid (HK.out w4 hB4)
        have HB4 := Lib.hid hB4
        clear hb4 hB4 HK HSM
        go_wp2_with fail
        refine HK4.out.mono ?_
        rintro e w5 ⟨rfl, hb5⟩
        go_wp2_with fail
        go_ret
        exact ⟨rfl, HB4.out.trans (hb5.mono HB4.out.size)⟩
end Go.Proofs.YtkihgbggndikpaaGreatDoor
namespace Go.Proofs.YtkihgbggndikpaaGreatDoor
open Go

theorem splitY_hit (c b : UInt8) (r : Bs) (h : (b == c) = true) : splitL c (b :: r) = [] :: splitL c r := by
  simp only [splitL, h, if_true]
theorem splitY_miss (c b : UInt8) (r p : Bs) (ps : List Bs) (h : (b == c) = false) (e : splitL c r = p :: ps) :
    splitL c (b :: r) = (b :: p) :: ps := by
  simp only [splitL, h, Bool.false_eq_true, if_false, e]
/-- A piece, then what is behind. -/
theorem splitY_put (c : UInt8) : ∀ (a b : Bs), (∀ x ∈ a, (x == c) = false) → splitL c (a ++ c :: b) = a :: splitL c b
  | [], b, _ => by rw [List.nil_append, splitY_hit c c b (by simp)]
  | x :: r, b, h => by
    have ih := splitY_put c r b (fun y hy => h y (by simp [hy]))
    rw [List.cons_append]
    exact splitY_miss c x _ _ _ (h x (by simp)) ih
theorem splitY_all (c : UInt8) : ∀ a : Bs, (∀ x ∈ a, (x == c) = false) → splitL c a = [a]
  | [], _ => rfl
  | x :: r, h => splitY_miss c x r _ _ (h x (by simp)) (splitY_all c r (fun y hy => h y (by simp [hy])))
theorem named_plain {n : Bs} (h : namedB n = true) (c : UInt8) (hc : plainN c = false) : ∀ x ∈ n, (x == c) = false := fun x hx => by
  unfold namedB at h
  simp only [Bool.and_eq_true] at h
  have := List.all_eq_true.1 h.2 x hx
  rw [beq_eq_false_iff_ne]
  rintro rfl
  rw [hc] at this; cases this
theorem named_ne {n : Bs} (h : namedB n = true) : n.isEmpty = false := by
  unfold namedB at h
  cases n with
  | nil => simp at h
  | cons _ _ => rfl
theorem take_all (p : UInt8 → Bool) : ∀ n : Bs, (∀ x ∈ n, p x = true) → n.takeWhile p = n
  | [], _ => rfl
  | x :: r, h => by rw [List.takeWhile_cons, if_pos (h x (by simp)), take_all p r (fun y hy => h y (by simp [hy]))]
theorem words_named {n : Bs} (h : namedB n = true) : wordsL n = [n] := by
  have h1 : cutR n = n := by
    exact take_all _ n fun x hx => by
      have := named_plain h 35 (by decide) x hx
      simpa using this
  unfold wordsL
  rw [h1, splitY_all 32 n (named_plain h 32 (by decide))]
  simp [named_ne h]
theorem tell_name (o : Ow) {n : Bs} (h : namedB n = true) : tellL o [n] = some (o.1, o.2 ++ [([], [n])]) := by
  have h1 : isNopL [n] = false := by unfold isNopL; rw [beq_eq_false_iff_ne]; simp
  have h2 : isPerL [n] = false := by unfold isPerL; simp
  have h3 : isNameL [n] = true := by unfold isNameL; simp [h]
  unfold tellL kindL
  rw [h1, h2, h3]
  rfl
def nameB_ (n : Bs) : Bs := n ++ [10]
def bodyN (l : List Bs) : Bs := l.flatMap nameB_
theorem bodyN_snoc (l : List Bs) (n : Bs) : bodyN (l ++ [n]) = bodyN l ++ n ++ [10] := by unfold bodyN nameB_; rw [List.flatMap_append]; simp
theorem split_body : ∀ l : List Bs, (∀ n ∈ l, namedB n = true) → splitL 10 (bodyN l) = l ++ [[]]
  | [], _ => rfl
  | n :: r, h => by
    have e : bodyN (n :: r) = n ++ 10 :: bodyN r := by unfold bodyN nameB_; simp
    rw [e, splitY_put 10 n _ (named_plain (h n (by simp)) 10 (by decide)), split_body r (fun m hm => h m (by simp [hm]))]
    rfl
theorem parseL_names : ∀ (l : List Bs) (o : Ow), (∀ n ∈ l, namedB n = true) → l.foldl (fun o l => o.bind (tellL · (wordsL l))) (some o) = some (o.1, o.2 ++ l.map (fun n => ([], [n])))
  | [], o, _ => by simp
  | n :: r, o, h => by
    have h1 := h n (by simp)
    rw [List.foldl_cons]
    show r.foldl _ (tellL o (wordsL n)) = _
    rw [words_named h1, tell_name o h1, parseL_names r _ (fun m hm => h m (by simp [hm]))]
    simp
theorem parse_body (l : List Bs) (h : ∀ n ∈ l, namedB n = true) (hs : (bodyN l).length ≤ 16384) : parseV (bodyN l) = (0, (false, l.map (fun n => ([], [n])))) := by
  unfold parseV
  rw [if_neg (by omega), split_body l h]
  have : parseL (l ++ [[]]) = some (false, l.map (fun n => ([], [n]))) := by
    rw [parseL_snoc]
    unfold parseL
    rw [show (some emptyO) = some emptyO from rfl, parseL_names l emptyO h]
    show tellL _ (wordsL []) = _
    rw [show wordsL [] = [] from rfl]
    simp [tellL, kindL, tellK, emptyO]
  rw [this]
theorem gather_names (p : Bs → Bool) : ∀ (l K : List Bs), gatherS K (l.map (fun n => ([], [n]))) p = l.foldl addS K
  | [], K => rfl
  | n :: r, K => by
    have ih := gather_names p r (addS K n)
    unfold gatherS at ih ⊢
    rw [List.map_cons, List.foldl_cons, List.foldl_cons]
    exact ih
theorem own_join {d : Bs} (h : d ≠ []) : join2 d ownW ≠ ownW := by
  unfold join2
  rw [if_neg h, if_neg (by decide)]
  intro e
  have := congrArg List.length e
  rw [List.length_append, List.length_cons] at this
  omega
theorem atT_one (b d : Bs) (h : d ≠ []) : atT [(ownW, b)] d = (0, emptyO) := by
  have : getT [(ownW, b)] (join2 d ownW) = none := by
    unfold getT
    rw [List.find?_cons_of_neg (by simpa using (own_join h).symm)]
    rfl
  unfold atT; rw [this]
theorem atT_top (b : Bs) : atT [(ownW, b)] [] = parseV b := rfl
theorem ofStep_unfold (t : List Fl) (home base d : Bs) (ds K : List Bs) : ofStep t home base (d :: ds) K = if (atT t d).1 = 0 then (if (atT t d).2.1 = true then (0, gatherS K (atT t d).2.2 (askB home base d)) else ofStep t home base ds (gatherS K (atT t d).2.2 (askB home base d))) else ((atT t d).1, []) := by
  conv => lhs; unfold ofStep
theorem ofStep_one (l : List Bs) (h : ∀ n ∈ l, namedB n = true) (hs : (bodyN l).length ≤ 16384) (home base : Bs) : ∀ (k : Nat) (d K : Bs × List Bs), d.1.length ≤ k → ofStep [(ownW, bodyN l)] home base (ups d.1) K.2 = (0, l.foldl addS K.2) := by
  intro k
  induction k with
  | zero =>
    intro d K hd
    have e : d.1 = [] := List.eq_nil_of_length_eq_zero (by omega)
    rw [e, ups_step]
    simp only [List.isEmpty_nil, if_true]
    rw [ofStep_unfold, atT_top, parse_body l h hs]
    simp only [if_true, Bool.false_eq_true, if_false, gather_names]
    rfl
  | succ k ih =>
    intro d K hd
    by_cases e : d.1 = []
    · exact ih d K (by rw [e]; simp)
    · rw [ups_step, ofStep_unfold, atT_one _ _ e]
      have hne : d.1.isEmpty = false := by
        cases h0 : d.1 with
        | nil => exact absurd h0 e
        | cons _ _ => rfl
      simp only [if_true, emptyO, Bool.false_eq_true, if_false, hne]
      have hl := dirL_less hne
      exact ih (dirL d.1, []) ([], gatherS K.2 [] (askB home base d.1)) (by show (dirL d.1).length ≤ k; omega)
theorem ofT_one (l : List Bs) (s : Bs) (h : ∀ n ∈ l, namedB n = true) (hs : (bodyN l).length ≤ 16384) (hr : rightB s = true) : ofT [(ownW, bodyN l)] s = (0, l.foldl addS []) := by
  unfold ofT
  rw [hr, if_pos rfl]
  exact ofStep_one l h hs _ _ (dirL s).length (dirL s, []) ([], []) (Nat.le_refl _)
theorem ofStep_bare (home base : Bs) : ∀ (ds K : List Bs), ofStep [] home base ds K = (0, K)
  | [], K => rfl
  | d :: ds, K => by
    rw [ofStep_unfold]
    have : atT [] d = (0, emptyO) := rfl
    rw [this]
    simp only [if_true, emptyO, Bool.false_eq_true, if_false]
    exact ofStep_bare home base ds _
theorem ofT_bare (s : Bs) (hr : rightB s = true) : ofT [] s = (0, []) := by
  unfold ofT
  rw [hr, if_pos rfl]
  exact ofStep_bare _ _ _ _
end Go.Proofs.YtkihgbggndikpaaGreatDoor
namespace Go.Proofs.YtkihgbggndikpaaGreatDoor
open Go

theorem splitY_cat (c : UInt8) : ∀ (a b : Bs), splitL c (a ++ c :: b) = splitL c a ++ splitL c b
  | [], b => by
    rw [List.nil_append, splitY_hit c c b (by simp)]; rfl
  | x :: r, b => by
    have ih := splitY_cat c r b
    rw [List.cons_append]
    by_cases hx : (x == c) = true
    · rw [splitY_hit c x _ hx, splitY_hit c x _ hx, ih]; rfl
    · have hx' : (x == c) = false := by simpa using hx
      cases e : splitL c r with
      | nil => exact absurd e (splitL_ne c r)
      | cons p ps =>
        rw [splitY_miss c x r p ps hx' e, splitY_miss c x (r ++ c :: b) p (ps ++ splitL c b) hx' (by rw [ih, e]; rfl)]
        rfl
theorem glob_one {g : Bs} (h : isGlobL g = true) : patB g = true := by
  unfold isGlobL at h
  simp only [Bool.and_eq_true, Bool.not_eq_true'] at h
  have hno : ∀ x ∈ g, (x == 47) = false := fun x hx => by
    rw [beq_eq_false_iff_ne]; rintro rfl
    have := List.contains_iff_mem.2 hx
    rw [h.2] at this; cases this
  have h1 := h.1
  unfold globB partsB at h1
  rw [splitY_all 47 g hno] at h1
  rw [Bool.and_eq_true] at h1
  have h2 := h1.2
  rw [List.all_cons, List.all_nil, Bool.and_true] at h2
  exact h2
theorem glob_plain {g : Bs} (h : isGlobL g = true) (c : UInt8) (hc : okB [42, 63] c = false) : ∀ x ∈ g, (x == c) = false := fun x hx => by
  have hp := glob_one h
  unfold patB at hp
  rw [beq_eq_false_iff_ne]
  rintro rfl
  rw [Bool.or_eq_true] at hp
  rcases hp with hp | hp
  · rw [beq_iff_eq] at hp
    subst hp
    simp only [List.mem_cons, List.mem_nil_iff, or_false, or_self] at hx
    subst hx
    simp [okB] at hc
  · unfold speltB at hp
    simp only [Bool.and_eq_true] at hp
    have := List.all_eq_true.1 hp.1.2 x hx
    rw [hc] at this; cases this
theorem glob_ne {g : Bs} (h : isGlobL g = true) : g.isEmpty = false := by
  have hp := glob_one h
  cases g with
  | nil => exact absurd hp (by decide)
  | cons _ _ => rfl
def lineG (g who : Bs) : Bs := perW ++ 32 :: (g ++ 32 :: who)
theorem mem_lineG {g who : Bs} {x : UInt8} (h : x ∈ lineG g who) : x ∈ perW ∨ x = 32 ∨ x ∈ g ∨ x ∈ who := by
  unfold lineG at h
  simp only [List.mem_append, List.mem_cons] at h
  rcases h with h | h | h | h | h
  · exact .inl h
  · exact .inr (.inl h)
  · exact .inr (.inr (.inl h))
  · exact .inr (.inl h)
  · exact .inr (.inr (.inr h))
theorem lineG_no {g who : Bs} (hg : isGlobL g = true) (hw : namedB who = true) (c : UInt8) (h1 : okB [42, 63] c = false) (h2 : plainN c = false) (h3 : c ≠ 32) (h4 : ∀ x ∈ perW, (x == c) = false) : ∀ x ∈ lineG g who, (x == c) = false := fun x hx => by
  rcases mem_lineG hx with h | rfl | h | h
  · exact h4 x h
  · exact beq_eq_false_iff_ne.2 (fun e => h3 e.symm)
  · exact glob_plain hg c h1 x h
  · exact named_plain hw c h2 x h
theorem words_lineG {g who : Bs} (hg : isGlobL g = true) (hw : namedB who = true) : wordsL (lineG g who) = [perW, g, who] := by
  have h1 : cutR (lineG g who) = lineG g who := by
    unfold cutR
    exact take_all _ _ fun x hx => by
      have := lineG_no hg hw 35 (by decide) (by decide) (by decide) (by decide) x hx
      simpa using this
  unfold wordsL
  rw [h1]
  unfold lineG
  rw [splitY_put 32 perW _ (by decide), splitY_put 32 g _ (glob_plain hg 32 (by decide)), splitY_all 32 who (named_plain hw 32 (by decide))]
  have e1 := glob_ne hg
  have e2 := named_ne hw
  have e3 : perW.isEmpty = false := rfl
  simp [List.filter, e1, e2, e3]
theorem tell_lineG (o : Ow) {g who : Bs} (hg : isGlobL g = true) (hw : namedB who = true) : tellL o [perW, g, who] = some (o.1, o.2 ++ [(g, [who])]) := by
  have h1 : isNopL [perW, g, who] = false := by unfold isNopL; rw [beq_eq_false_iff_ne]; simp
  have h2 : isPerL [perW, g, who] = true := by unfold isPerL; simp [hg, hw]
  unfold tellL kindL
  rw [h1, h2]
  rfl
theorem parse_lineG {g who : Bs} (hg : isGlobL g = true) (hw : namedB who = true) (hs : (lineG g who).length ≤ 16384) : parseV (lineG g who) = (0, (false, [(g, [who])])) := by
  unfold parseV
  rw [if_neg (by omega), splitY_all 10 _ (lineG_no hg hw 10 (by decide) (by decide) (by decide) (by decide))]
  have : parseL [lineG g who] = some (false, [(g, [who])]) := by
    show tellL emptyO (wordsL (lineG g who)) = _
    rw [words_lineG hg hw, tell_lineG emptyO hg hw]; rfl
  rw [this]
theorem join_len {d : Bs} (h : d ≠ []) : (join2 d ownW).length = d.length + 7 := by
  unfold join2
  rw [if_neg h, if_neg (by decide), List.length_append, List.length_cons]
  rfl
/-- The file of another directory is not there. -/
theorem atT_other (dir b d : Bs) (hd : dir ≠ []) (hl : d.length ≠ dir.length) : atT [(join2 dir ownW, b)] d = (0, emptyO) := by
  have hne : join2 dir ownW ≠ join2 d ownW := fun e => by
    have := congrArg List.length e
    rw [join_len hd] at this
    by_cases h0 : d = []
    · subst h0
      have : (join2 [] ownW).length = 6 := rfl
      omega
    · rw [join_len h0] at this; omega
  have : getT [(join2 dir ownW, b)] (join2 d ownW) = none := by
    unfold getT
    rw [List.find?_cons_of_neg (by simpa using hne)]
    rfl
  unfold atT; rw [this]
theorem atT_here (dir b : Bs) : atT [(join2 dir ownW, b)] dir = parseV b := by
  have : getT [(join2 dir ownW, b)] (join2 dir ownW) = some b := by
    unfold getT
    rw [List.find?_cons_of_pos (by simp)]
    rfl
  unfold atT; rw [this]
theorem ofStep_above (dir b home base : Bs) (hd : dir ≠ []) : ∀ (ds K : List Bs), (∀ d ∈ ds, d.length ≠ dir.length) → ofStep [(join2 dir ownW, b)] home base ds K = (0, K)
  | [], K, _ => rfl
  | d :: ds, K, h => by
    rw [ofStep_unfold, atT_other dir b d hd (h d (by simp))]
    simp only [if_true, emptyO, Bool.false_eq_true, if_false]
    exact ofStep_above dir b home base hd ds _ (fun x hx => h x (by simp [hx]))
theorem ups_above {dir : Bs} (hd : dir ≠ []) : ∀ d ∈ (if dir.isEmpty then [] else ups (dirL dir)), d.length ≠ dir.length := by
  have hne : dir.isEmpty = false := by
    cases dir with
    | nil => exact absurd rfl hd
    | cons _ _ => rfl
  rw [hne, if_neg (by simp)]
  intro d hx
  have := ups_small (dirL dir).length (dirL dir) (Nat.le_refl _) d hx
  have := dir_shorter hd
  omega
/-- A file of the directory itself. -/
theorem ofT_glob {dir g who s : Bs} (hd : dir ≠ []) (hg : isGlobL g = true) (hw : namedB who = true) (hs : (lineG g who).length ≤ 16384) (hr : rightB s = true) (hdir : dirL s = dir) :
    ofT [(join2 dir ownW, lineG g who)] s = (0, if matchB g (baseL s) then [who] else []) := by
  unfold ofT
  rw [hr, if_pos rfl, hdir, ups_step, ofStep_unfold, atT_here, parse_lineG hg hw hs]
  simp only [if_true, Bool.false_eq_true, if_false]
  rw [ofStep_above dir _ _ _ hd _ _ (ups_above hd)]
  unfold gatherS askB
  simp only [List.foldl_cons, List.foldl_nil, glob_ne hg, Bool.false_or, beq_self_eq_true, Bool.true_and]
  rfl
/-- A file of a directory within it. -/
theorem ofT_deeper {dir g who s : Bs} {sub : Bs} (hd : dir ≠ []) (hg : isGlobL g = true) (hw : namedB who = true) (hs : (lineG g who).length ≤ 16384) (hr : rightB s = true) (hdir : dirL s = dir ++ 47 :: sub) (hup : dirL (dir ++ 47 :: sub) = dir) :
    ofT [(join2 dir ownW, lineG g who)] s = (0, []) := by
  have hne : (dir ++ 47 :: sub).isEmpty = false := by cases dir <;> rfl
  have hlen : (dir ++ 47 :: sub).length ≠ dir.length := by rw [List.length_append, List.length_cons]; omega
  have hneq : ((dir : Bs) == dir ++ 47 :: sub) = false := by
    rw [beq_eq_false_iff_ne]; intro e; exact hlen (congrArg List.length e).symm
  unfold ofT
  rw [hr, if_pos rfl, hdir, ups_step, ofStep_unfold, atT_other dir _ _ hd hlen]
  simp only [if_true, emptyO, Bool.false_eq_true, if_false, hne]
  rw [hup, ups_step, ofStep_unfold, atT_here, parse_lineG hg hw hs]
  simp only [if_true, Bool.false_eq_true, if_false]
  rw [ofStep_above dir _ _ _ hd _ _ (ups_above hd)]
  unfold gatherS askB
  simp only [List.foldl_cons, List.foldl_nil, glob_ne hg, hneq, Bool.false_or, Bool.false_and, Bool.false_eq_true, if_false]
/-! The law's own paths. -/
theorem join_parts {dir name : Bs} (hd : dir ≠ []) (h : dirL (join2 dir name) = dir) : join2 dir name = dir ++ 47 :: name ∧ ∀ c ∈ name, c ≠ 47 := by
  by_cases hn : name = []
  · subst hn
    have e : join2 dir [] = dir := by unfold join2; rw [if_neg hd, if_pos rfl]
    rw [e] at h
    have := dir_shorter hd
    rw [h] at this; omega
  · have e : join2 dir name = dir ++ 47 :: name := by unfold join2; rw [if_neg hd, if_neg hn]
    refine ⟨e, ?_⟩
    rcases last_slash name with h0 | ⟨p, l, rfl, hl⟩
    · exact h0
    · exfalso
      rw [e, show dir ++ 47 :: (p ++ 47 :: l) = (dir ++ 47 :: p) ++ 47 :: l from by simp, dirL_slash _ l hl] at h
      have := congrArg List.length h
      rw [List.length_append, List.length_cons] at this
      omega
theorem base_parts (dir name : Bs) (hn : ∀ c ∈ name, c ≠ 47) : baseL (dir ++ 47 :: name) = name := by rw [baseL_slash, baseL_none name hn]
def subW : Bs := [115, 117, 98]
theorem join_sub {dir name : Bs} (hd : dir ≠ []) : join2 dir ([115, 117, 98, 47] ++ name) = dir ++ 47 :: (subW ++ 47 :: name) := by
  unfold join2
  rw [if_neg hd, if_neg (by simp)]
  rfl
theorem right_subG {dir name : Bs} (hr : rightB (dir ++ 47 :: name) = true) (hl : (dir ++ 47 :: name).length ≤ 60) : rightB (dir ++ 47 :: (subW ++ 47 :: name)) = true := by
  unfold rightB partsB at hr ⊢
  rw [splitY_cat, List.all_append, Bool.and_eq_true, Bool.and_eq_true] at hr
  rw [splitY_cat, splitY_cat, List.all_append, List.all_append, hr.2.1, hr.2.2]
  have h1 : (splitL 47 subW).all nameB = true := by decide
  rw [h1]
  have h2 : (dir ++ 47 :: (subW ++ 47 :: name)).length ≤ 100 := by
    simp only [List.length_append, List.length_cons] at hl ⊢
    have : subW.length = 3 := rfl
    omega
  rw [decide_eq_true h2]; rfl
theorem dir_sub (dir name : Bs) (hn : ∀ c ∈ name, c ≠ 47) : dirL (dir ++ 47 :: (subW ++ 47 :: name)) = dir ++ 47 :: subW := by
  rw [show dir ++ 47 :: (subW ++ 47 :: name) = (dir ++ 47 :: subW) ++ 47 :: name from by simp]
  exact dirL_slash _ name hn
theorem dir_up (dir : Bs) : dirL (dir ++ 47 :: subW) = dir := dirL_slash dir subW (by decide)
end Go.Proofs.YtkihgbggndikpaaGreatDoor
namespace Go.Proofs.YtkihgbggndikpaaGreatDoor
open Go Go.RowKit Go.Shelf Go.Proofs
attribute [local go_sem] Oper.semAt_some

/-- Join of longer texts. -/
theorem refjoin2_any (d s : ByteArray) (w : World) (hd : d.size ≤ 1000000000000000) (hs : s.size ≤ 1000000000000000) :
    Calls Tryz.prog 30 #[.string d, .string s] w fun e w' => e = .returned (.string (mkB (join2 d.data.toList s.data.toList))) ∧ w' = w := by
  by_cases h1 : d.toList = []
  · have g1 : d.toList.isEmpty = true := by simp [h1]
    have hr : mkB (join2 d.data.toList s.data.toList) = s := by unfold join2; rw [← ByteArray.toList_eq d, if_pos h1, data_mkB]
    have HR := Lib.hid hr; clear hr h1
    go_enter Tryz.func30, Tryz.ntmps30
    go_wp2_with fail
    go_ret
    exact ⟨by rw [HR.out]; rfl, rfl⟩
  · have g1 : d.toList.isEmpty = false := by simpa using h1
    by_cases h2 : s.toList = []
    · have g2 : s.toList.isEmpty = true := by simp [h2]
      have hr : mkB (join2 d.data.toList s.data.toList) = d := by unfold join2; rw [← ByteArray.toList_eq d, ← ByteArray.toList_eq s, if_neg h1, if_pos h2, ByteArray.toList_eq, data_mkB]
      have HR := Lib.hid hr; clear hr h1 h2
      go_enter Tryz.func30, Tryz.ntmps30
      go_wp2_with fail
      go_ret
      exact ⟨by rw [HR.out]; rfl, rfl⟩
    · have g2 : s.toList.isEmpty = false := by simpa using h2
      have hr : mkB (join2 d.data.toList s.data.toList) = d ++ ⟨#[47]⟩ ++ s := by
        unfold join2; rw [← ByteArray.toList_eq d, ← ByteArray.toList_eq s, if_neg h1, if_neg h2, ByteArray.toList_eq, ByteArray.toList_eq, ← data_mkB (d ++ ⟨#[47]⟩ ++ s)]
        congr 1
        simp only [ByteArray.data_append, Array.toList_append]
        simp
      have HR := Lib.hid hr; clear hr h1 h2
      go_enter Tryz.func30, Tryz.ntmps30
      go_wp2_with fail
      go_ret
      exact ⟨by rw [HR.out]; rfl, rfl⟩

theorem one_treeP (w : World) (p B : ByteArray) :
    TreeAt ((w.drew.alloc (rowB w B)).alloc (.cells #[.string p, .slice (some ⟨w.heap.size, 0, none⟩) B.size (capB w B)] 52)) (some ⟨w.heap.size + 1, 0, none⟩) 1 [⟨p, some ⟨w.heap.size, 0, none⟩, capB w B, B.data.toList⟩] ∧
    Below w.heap.size w ((w.drew.alloc (rowB w B)).alloc (.cells #[.string p, .slice (some ⟨w.heap.size, 0, none⟩) B.size (capB w B)] 52)) := by
  have hl : B.data.toList.length = B.size := Array.length_toList
  have h0 := heap_alloc_new w.drew (rowB w B)
  have h1 := heap_alloc_new (w.drew.alloc (rowB w B)) (.cells #[.string p, .slice (some ⟨w.heap.size, 0, none⟩) B.size (capB w B)] 52)
  have hb1 : Below (w.drew.alloc (rowB w B)).heap.size (w.drew.alloc (rowB w B)) ((w.drew.alloc (rowB w B)).alloc (.cells #[.string p, .slice (some ⟨w.heap.size, 0, none⟩) B.size (capB w B)] 52)) := (Below.refl _ _).alloc (Nat.le_refl _) _
  have hb0 : Below w.heap.size w (w.drew.alloc (rowB w B)) := (⟨rfl, rfl, rfl, Nat.le_refl _, fun _ _ => rfl⟩ : Below w.heap.size w w.drew).alloc (Nat.le_refl _) _
  have hz : (w.drew.alloc (rowB w B)).heap.size = w.heap.size + 1 := World.size_alloc _ _
  have hk0 := (hb1.block w.heap.size (by omega)).trans h0
  rw [hz] at h1
  refine ⟨⟨Nat.le_refl _, by decide, fun _ => ⟨_, 0, rfl, fun i x hx => ?_⟩, fun x hx => ?_⟩, hb0.trans (hb1.mono hb0.size)⟩
  · match i, hx with
    | 0, hx =>
      cases hx
      refine ⟨cell_of_row _ _ 0 _ _ _ h1, ?_⟩
      show _ = some (Value.slice (some ⟨w.heap.size, 0, none⟩) B.data.toList.length (capB w B))
      rw [hl]; exact cell_of_row _ _ 1 _ _ _ h1
    | i + 1, hx => simp at hx
  · simp only [List.mem_singleton] at hx
    subst hx
    intro _
    refine ⟨w.heap.size, 0, rfl, fun i hi => ?_⟩
    have hi : i < B.data.toList.length := hi
    have hi' : i < B.data.size := by show i < B.size; omega
    rw [Nat.zero_add, cell_of_row _ w.heap.size i _ _ _ (show _ = some (Obj.cells (bytesRow B (capB w B)) 5 ((bytesRow B (capB w B)).size, (bytesRow B (capB w B)).size + 1)) from hk0), bytesRow_at B (capB w B) i hi']
    unfold numsB
    rw [List.getD_eq_getElem?_getD, List.getElem?_map, List.getElem?_eq_getElem hi]
    rfl
theorem cat_line (g who : ByteArray) : (⟨#[112, 101, 114, 45, 102, 105, 108, 101, 32]⟩ ++ g ++ ⟨#[32]⟩ ++ who : ByteArray).data.toList = lineG g.data.toList who.data.toList := by unfold lineG perW; simp

set_option maxRecDepth 100000 in
set_option maxHeartbeats 16000000 in
theorem oglobs_any (dir name g who : ByteArray) (w : World) (hd : dir.size ≤ 1000000000000000) (hn : name.size ≤ 1000000000000000) (hg : g.size ≤ 1000000000000000) (hwh : who.size ≤ 1000000000000000) (hm : MaxOk w) (hT : TabsOk w) :
    Calls Tryz.prog 10 #[.string dir, .string name, .string g, .string who] w (BoolPost true w) := by
  have HK := Lib.hid (fun (W : World) (hb : Below w.heap.size w W) => oknown_any W (hm.below hb) (hT.below (Nat.le_refl _) hb))
  have HOF := Lib.hid (fun (l : List FX) (A : Option Addr) (c : Nat) (s : ByteArray) (W : World) (hb : Below w.heap.size w W) (h : TreeAt W A c l) (hsm : SmallX l) (h2 : s.size ≤ 1000000) => of_all l A c s W h hsm h2 (hm.below hb) (hT.below (Nat.le_refl _) hb))
  have HJ := Lib.hid (refjoin2_any dir name w (by omega) (by omega))
  obtain ⟨S, hS⟩ : ∃ S, mkB (join2 dir.data.toList name.data.toList) = S := ⟨_, rfl⟩
  have HS : Hid (S.data.toList = join2 dir.data.toList name.data.toList) := by unfold Hid; rw [← hS, mkB_data]
  rw [hS] at HJ
  clear hS hm hT
  go_enter Tryz.func10, Tryz.ntmps10
  go_wp2_with fail
  refine HJ.out.mono ?_
  rintro e w' ⟨rfl, hw⟩
  have hw := hw.symm
  subst hw
  by_cases h1 : 60 < S.size
  · have g1 : (60 : Int) < (S.size : Int) := by omega
    have HKN := Lib.hid (HK.out w (Below.refl w.heap.size w))
    go_wp2_with fail
    refine HKN.out.mono ?_
    rintro e w9 ⟨rfl, hb9⟩
    go_wp2_with fail
    go_ret
    exact ⟨rfl, (Below.refl w.heap.size w).trans (hb9.mono (Below.refl w.heap.size w).size)⟩
  · have g1 : ¬ (60 : Int) < (S.size : Int) := by omega
    by_cases h2 : 40 < g.size
    · have g2 : (40 : Int) < (g.size : Int) := by omega
      have HKN := Lib.hid (HK.out w (Below.refl w.heap.size w))
      go_wp2_with fail
      refine HKN.out.mono ?_
      rintro e w9 ⟨rfl, hb9⟩
      go_wp2_with fail
      go_ret
      exact ⟨rfl, (Below.refl w.heap.size w).trans (hb9.mono (Below.refl w.heap.size w).size)⟩
    · have g2 : ¬ (40 : Int) < (g.size : Int) := by omega
      go_wp2_with fail
      refine (refright_any S w (by omega)).mono ?_
      rintro e w1 ⟨rfl, hb1⟩
      have HB1 := Lib.hid hb1
      clear hb1
      cases hr : rightB S.data.toList with
      | false =>
        have HRR := Lib.hid hr
        clear hr
        have HKN := Lib.hid (HK.out w1 (HB1.out))
        go_wp2_with fail
        refine HKN.out.mono ?_
        rintro e w9 ⟨rfl, hb9⟩
        go_wp2_with fail
        go_ret
        exact ⟨rfl, (HB1.out).trans (hb9.mono (HB1.out).size)⟩
      | true =>
        have HRR := Lib.hid hr
        clear hr
        go_wp2_with fail
        refine (refdirL_any S w1 (by omega)).mono ?_
        rintro e w' ⟨rfl, hw⟩
        have hw := hw.symm
        subst hw
        by_cases h4 : dirL S.data.toList = dir.data.toList
        · have g4 : mkB (dirL S.data.toList) = dir := by rw [h4, data_mkB]
          rw [g4]
          by_cases h5 : dir.toList = []
          · have g5 : dir.toList.isEmpty = true := by simp [h5]
            clear g4 h4
            have HKN := Lib.hid (HK.out w1 (HB1.out))
            go_wp2_with fail
            refine HKN.out.mono ?_
            rintro e w9 ⟨rfl, hb9⟩
            go_wp2_with fail
            go_ret
            exact ⟨rfl, (HB1.out).trans (hb9.mono (HB1.out).size)⟩
          · have g5 : dir.toList.isEmpty = false := by simpa using h5
            have HD0 := Lib.hid h5
            have HDIR := Lib.hid h4
            clear h5 h4 g4
            have hcall := named_any who w1 (by unfold maxLen; omega)
            have HC := Lib.hid hcall
            clear hcall
            go_wp2_with fail
            refine HC.out.mono ?_
            rintro e w' ⟨rfl, hw⟩
            have hw := hw.symm
            subst hw
            cases h6 : namedB who.data.toList with
            | false =>
              have H6 := Lib.hid h6
              clear h6
              have HKN := Lib.hid (HK.out w1 (HB1.out))
              go_wp2_with fail
              refine HKN.out.mono ?_
              rintro e w9 ⟨rfl, hb9⟩
              go_wp2_with fail
              go_ret
              exact ⟨rfl, (HB1.out).trans (hb9.mono (HB1.out).size)⟩
            | true =>
              have H6 := Lib.hid h6
              clear h6
              go_wp2_with fail
              refine (refglob_any g w1 (by omega)).mono ?_
              rintro e w2 ⟨rfl, hb2⟩
              have HB2 := Lib.hid (HB1.out.trans (hb2.mono HB1.out.size))
              clear hb2
              cases h7 : globB g.data.toList with
              | false =>
                have H7 := Lib.hid h7
                clear h7
                have HKN := Lib.hid (HK.out w2 (HB2.out))
                go_wp2_with fail
                refine HKN.out.mono ?_
                rintro e w9 ⟨rfl, hb9⟩
                go_wp2_with fail
                go_ret
                exact ⟨rfl, (HB2.out).trans (hb9.mono (HB2.out).size)⟩
              | true =>
                have H7 := Lib.hid h7
                clear h7
                have hsp := split_many 47 g.data.toList
                obtain ⟨L, hL⟩ : ∃ L, splitL 47 g.data.toList = L := ⟨_, rfl⟩
                have hS := refsplit_any g 47 w2 (by omega)
                rw [hL] at hsp hS
                have HSP := Lib.hid hS
                clear hL hS
                go_wp2_with fail
                refine HSP.out.mono ?_
                rintro e w3 ⟨v, rfl, hrow, hb3⟩
                obtain ⟨AL, cL, rfl, _, _⟩ := ownsRow_slice hrow
                have HB3 := Lib.hid (HB2.out.trans (hb3.mono HB2.out.size))
                clear hrow hb3
                cases h8 : g.data.toList.contains 47 with
                | true =>
                  rw [h8] at hsp
                  have g8 : (1 : Int) < (L.length : Int) := by have := of_decide_eq_true hsp; omega
                  clear h8 hsp
                  have HKN := Lib.hid (HK.out w3 (HB3.out))
                  go_wp2_with fail
                  refine HKN.out.mono ?_
                  rintro e w9 ⟨rfl, hb9⟩
                  go_wp2_with fail
                  go_ret
                  exact ⟨rfl, (HB3.out).trans (hb9.mono (HB3.out).size)⟩
                | false =>
                  have H8 := Lib.hid h8
                  rw [h8] at hsp
                  have g8 : ¬ (1 : Int) < (L.length : Int) := by have := of_decide_eq_false hsp; omega
                  clear h8 hsp
                  have hjp := join_parts (show dir.data.toList ≠ [] from fun e => HD0.out (by rw [ByteArray.toList_eq]; exact e)) (by rw [← HS.out]; exact HDIR.out)
                  have HJP := Lib.hid hjp
                  have HGL : Hid (isGlobL g.data.toList = true) := by unfold Hid isGlobL; rw [H7.out, H8.out]; rfl
                  have HPAR : Hid (S.data.toList.length = S.size ∧ dir.data.toList.length = dir.size ∧ name.data.toList.length = name.size) := ⟨Array.length_toList, Array.length_toList, Array.length_toList⟩
                  have hdz : dir.size + name.size < 60 := by
                    have h1 := congrArg List.length (HS.out.trans HJP.out.1)
                    have h2 := HPAR.out
                    rw [List.length_append, List.length_cons] at h1
                    omega
                  have hwz : who.size ≤ 20 := by
                    have := H6.out; unfold namedB at this; simp only [Bool.and_eq_true, decide_eq_true_eq] at this
                    have h2 := this.1.2
                    rw [Array.length_toList] at h2; exact h2
                  clear hjp
                  have HJO := Lib.hid (refjoin_any dir ⟨#[79, 87, 78, 69, 82, 83]⟩ w3 (by omega) (by decide))
                  go_wp2_with fail
                  refine HJO.out.mono ?_
                  rintro e w' ⟨rfl, hw⟩
                  have hw := hw.symm
                  subst hw
                  have hcv := conv_bytes w3 (⟨#[112, 101, 114, 45, 102, 105, 108, 101, 32]⟩ ++ g ++ ⟨#[32]⟩ ++ who)
                  go_upto_region 5 with (fail)
                  obtain ⟨BL, hBL⟩ : ∃ x, (⟨#[112, 101, 114, 45, 102, 105, 108, 101, 32]⟩ ++ g ++ ⟨#[32]⟩ ++ who : ByteArray) = x := ⟨_, rfl⟩
                  have hbl : BL.data.toList = lineG g.data.toList who.data.toList := by rw [← hBL]; exact cat_line g who
                  have hlz : (lineG g.data.toList who.data.toList).length ≤ 16384 := by
                    have h1 : g.data.toList.length = g.size := Array.length_toList
                    have h2 : who.data.toList.length = who.size := Array.length_toList
                    unfold lineG
                    simp only [List.length_append, List.length_cons]
                    have : perW.length = 8 := rfl
                    omega
                  obtain ⟨PD, hPD⟩ : ∃ x, mkB (join2 dir.data.toList (ByteArray.mk #[79, 87, 78, 69, 82, 83]).data.toList) = x := ⟨_, rfl⟩
                  have hpd : PD.data.toList = join2 dir.data.toList ownW := by rw [← hPD, mkB_data]; rfl
                  have hpz : PD.size ≤ 100 := by
                    rw [← hPD, mkB_size, show (ByteArray.mk #[79, 87, 78, 69, 82, 83]).data.toList = ownW from rfl, join_len (fun e => HD0.out (by rw [ByteArray.toList_eq]; exact e))]
                    have := HPAR.out; omega
                  rw [hBL] at ⊢
                  try rw [hPD] at ⊢
                  have hbz : 9 + g.size + 1 + who.size = BL.size := by rw [← hBL]; simp only [ByteArray.size_append]; rfl
                  rw [hbz]
                  clear hcv
                  obtain ⟨hTr0, hbT0⟩ := one_treeP w3 PD BL
                  obtain ⟨W2, hW2⟩ : ∃ x, ((w3.alloc (rowB w3 BL)).alloc (.cells #[.string PD, .slice (some ⟨w3.heap.size, 0, none⟩) BL.size (capB w3 BL)] 52)).drew = x := ⟨_, rfl⟩
                  rw [hW2]
                  have hTr : TreeAt W2 (some ⟨w3.heap.size + 1, 0, none⟩) 1 [⟨PD, some ⟨w3.heap.size, 0, none⟩, capB w3 BL, BL.data.toList⟩] := by rw [← hW2]; exact hTr0
                  have hbT : Below w3.heap.size w3 W2 := by rw [← hW2]; exact hbT0
                  have HB4 := Lib.hid (HB3.out.trans (hbT.mono HB3.out.size))
                  have hdn : dir.data.toList ≠ [] := fun e => HD0.out (by rw [ByteArray.toList_eq]; exact e)
                  have hsmall : SmallX [⟨PD, some ⟨w3.heap.size, 0, none⟩, capB w3 BL, BL.data.toList⟩] := ⟨by show (1 : Nat) ≤ 100000; decide, fun x hx => by
                    simp only [List.mem_singleton] at hx; subst hx
                    refine ⟨by show PD.size ≤ 1000000; omega, ?_⟩
                    show BL.data.toList.length ≤ 1000000
                    rw [hbl]; omega⟩
                  have hfl : flsX [⟨PD, some ⟨w3.heap.size, 0, none⟩, capB w3 BL, BL.data.toList⟩] = [(join2 dir.data.toList ownW, lineG g.data.toList who.data.toList)] := by rw [← hpd, ← hbl]; rfl
                  have hofg := ofT_glob (s := S.data.toList) hdn HGL.out H6.out hlz HRR.out HDIR.out
                  rw [HS.out, HJP.out.1, base_parts _ _ HJP.out.2, ← HJP.out.1, ← HS.out] at hofg
                  have hj2 : join2 dir.data.toList (⟨#[115, 117, 98, 47]⟩ ++ name : ByteArray).data.toList = dir.data.toList ++ 47 :: (subW ++ 47 :: name.data.toList) := by
                    rw [← join_sub hdn]; congr 1
                  have hofd := ofT_deeper (s := dir.data.toList ++ 47 :: (subW ++ 47 :: name.data.toList)) hdn HGL.out H6.out hlz (right_subG (by rw [← HJP.out.1, ← HS.out]; exact HRR.out) (by rw [← HJP.out.1, ← HS.out]; have := HPAR.out; omega)) (dir_sub _ _ HJP.out.2) (dir_up _)
                  clear hW2 hTr0 hbT0 hbT hBL hbl hPD hpd hbz hlz
                  cases hmm : matchB g.data.toList name.data.toList with
                  | true =>
                    have HMM := Lib.hid hmm
                    rw [hmm] at hofg
                    simp only [if_true] at hofg
                    have hO1 := HOF.out [⟨PD, some ⟨w3.heap.size, 0, none⟩, capB w3 BL, BL.data.toList⟩] _ 1 S W2 HB4.out hTr hsmall (by omega)
                    have hO2 := fun (W : World) (hb : Below w.heap.size w W) (hbW : Below W2.heap.size W2 W) => HOF.out [⟨PD, some ⟨w3.heap.size, 0, none⟩, capB w3 BL, BL.data.toList⟩] _ 1 (mkB (join2 dir.data.toList (⟨#[115, 117, 98, 47]⟩ ++ name : ByteArray).data.toList)) W hb (hTr.below hbW) hsmall (by rw [hj2, mkB_size]; simp only [List.length_append, List.length_cons]; have := HPAR.out; have : subW.length = 3 := rfl; omega)
                    rw [hfl, hofg] at hO1
                    simp only [hfl, hj2, mkB_data, hofd] at hO2
                    unfold TextsPost at hO1 hO2
                    simp only [List.length_cons, List.length_nil, Nat.zero_add] at hO1 hO2
                    have HO1 := Lib.hid hO1
                    have HO2 := Lib.hid hO2
                    have HJ2 := Lib.hid (fun W => refjoin_any dir (⟨#[115, 117, 98, 47]⟩ ++ name) W (by omega) (by rw [ByteArray.size_append]; show 4 + name.size ≤ _; omega))
                    have HMA := Lib.hid (fun W => refmatch_any g name W (by omega) (by omega))
                    rw [hj2] at HJ2
                    clear hO1 hO2 hTr hsmall hofg hofd hfl hmm hj2
                    go_wp2_with fail
                    refine HO1.out.mono ?_
                    rintro e w5 ⟨A5, c5, rfl, hs5, hc5, hm5, hb5⟩
                    have HB5 := Lib.hid (HB4.out.trans (hb5.mono HB4.out.size))
                    have HB25 := Lib.hid hb5
                    have HS5 := Lib.hid hs5
                    clear hs5 hb5
                    go_wp2_with fail
                    refine (HJ2.out w5).mono ?_
                    rintro e w' ⟨rfl, hw⟩
                    have hw := hw.symm
                    subst hw
                    go_wp2_with fail
                    refine (HO2.out w5 HB5.out HB25.out).mono ?_
                    rintro e w6 ⟨A6, c6, rfl, _, hc6, hm6, hb6⟩
                    have HB6 := Lib.hid (HB5.out.trans (hb6.mono HB5.out.size))
                    have HS6 := Lib.hid (HS5.out.below hb6)
                    clear hb6
                    go_wp2_with fail
                    refine (HMA.out w6).mono ?_
                    rintro e w7 ⟨rfl, hb7⟩
                    rw [HMM.out]
                    have HB7 := Lib.hid (HB6.out.trans (hb7.mono HB6.out.size))
                    have hs7 := HS6.out.below hb7
                    have HKN := Lib.hid (HK.out w7 HB7.out)
                    obtain ⟨g0, o0, hA5, hc0⟩ := hs7 (by simp)
                    subst hA5
                    have cw := hc0 0 _ rfl
                    rw [Nat.add_zero, data_mkB] at cw
                    clear hs7 hc0
                    clear hb7
                    go_wp2_with fail
                    refine HKN.out.mono ?_
                    rintro e w9 ⟨rfl, hb9⟩
                    go_wp2_with fail
                    go_ret
                    exact ⟨rfl, HB7.out.trans (hb9.mono HB7.out.size)⟩
                  | false =>
                    have HMM := Lib.hid hmm
                    rw [hmm] at hofg
                    simp only [Bool.false_eq_true, if_false] at hofg
                    have hO1 := HOF.out [⟨PD, some ⟨w3.heap.size, 0, none⟩, capB w3 BL, BL.data.toList⟩] _ 1 S W2 HB4.out hTr hsmall (by omega)
                    have hO2 := fun (W : World) (hb : Below w.heap.size w W) (hbW : Below W2.heap.size W2 W) => HOF.out [⟨PD, some ⟨w3.heap.size, 0, none⟩, capB w3 BL, BL.data.toList⟩] _ 1 (mkB (join2 dir.data.toList (⟨#[115, 117, 98, 47]⟩ ++ name : ByteArray).data.toList)) W hb (hTr.below hbW) hsmall (by rw [hj2, mkB_size]; simp only [List.length_append, List.length_cons]; have := HPAR.out; have : subW.length = 3 := rfl; omega)
                    rw [hfl, hofg] at hO1
                    simp only [hfl, hj2, mkB_data, hofd] at hO2
                    unfold TextsPost at hO1 hO2
                    simp only [List.length_cons, List.length_nil, Nat.zero_add] at hO1 hO2
                    have HO1 := Lib.hid hO1
                    have HO2 := Lib.hid hO2
                    have HJ2 := Lib.hid (fun W => refjoin_any dir (⟨#[115, 117, 98, 47]⟩ ++ name) W (by omega) (by rw [ByteArray.size_append]; show 4 + name.size ≤ _; omega))
                    have HMA := Lib.hid (fun W => refmatch_any g name W (by omega) (by omega))
                    rw [hj2] at HJ2
                    clear hO1 hO2 hTr hsmall hofg hofd hfl hmm hj2
                    go_wp2_with fail
                    refine HO1.out.mono ?_
                    rintro e w5 ⟨A5, c5, rfl, hs5, hc5, hm5, hb5⟩
                    have HB5 := Lib.hid (HB4.out.trans (hb5.mono HB4.out.size))
                    have HB25 := Lib.hid hb5
                    have HS5 := Lib.hid hs5
                    clear hs5 hb5
                    go_wp2_with fail
                    refine (HJ2.out w5).mono ?_
                    rintro e w' ⟨rfl, hw⟩
                    have hw := hw.symm
                    subst hw
                    go_wp2_with fail
                    refine (HO2.out w5 HB5.out HB25.out).mono ?_
                    rintro e w6 ⟨A6, c6, rfl, _, hc6, hm6, hb6⟩
                    have HB6 := Lib.hid (HB5.out.trans (hb6.mono HB5.out.size))
                    have HS6 := Lib.hid (HS5.out.below hb6)
                    clear hb6
                    go_wp2_with fail
                    refine (HMA.out w6).mono ?_
                    rintro e w7 ⟨rfl, hb7⟩
                    rw [HMM.out]
                    have HB7 := Lib.hid (HB6.out.trans (hb7.mono HB6.out.size))
                    have hs7 := HS6.out.below hb7
                    have HKN := Lib.hid (HK.out w7 HB7.out)
                    clear hs7
                    clear hb7
                    go_wp2_with fail
                    refine HKN.out.mono ?_
                    rintro e w9 ⟨rfl, hb9⟩
                    go_wp2_with fail
                    go_ret
                    exact ⟨rfl, HB7.out.trans (hb9.mono HB7.out.size)⟩
        · have g4 : ((mkB (dirL S.data.toList)).toList == dir.toList) = false := by rw [ByteArray.toList_eq, ByteArray.toList_eq, mkB_data, beq_eq_false_iff_ne]; exact h4
          have g4b : ((mkB (dirL S.data.toList)).toList != dir.toList) = true := by unfold bne; rw [g4]; rfl
          clear h4
          have HKN := Lib.hid (HK.out w1 (HB1.out))
          go_wp2_with fail
          refine HKN.out.mono ?_
          rintro e w9 ⟨rfl, hb9⟩
          go_wp2_with fail
          go_ret
          exact ⟨rfl, (HB1.out).trans (hb9.mono (HB1.out).size)⟩
end Go.Proofs.YtkihgbggndikpaaGreatDoor
