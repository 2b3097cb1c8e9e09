/-
  The document's own Of. · The law OwnersTells: Of answers what the document's own Of answers.
-/
import Derived.Test.YtioiieammmdilaaGreatDoorOwRefs
import Derived.Test.YtioiieammmdilaaGreatDoorOwKnown
import Derived.Test.YtioiieammmdilaaGreatDoorTRefC
import Derived.Test.YtioiieammmdilaaGreatDoorBase
import Derived.Test.YtioiieammmdilaaGreatDoorTNested
import Derived.BigQuiet
import Derived.Deep.RegionHeld3
namespace Go.Proofs.YtioiieammmdilaaGreatDoor
open Go Go.RowKit Go.Shelf Go.Proofs
attribute [local go_sem] Oper.semAt_some

/-- Names in a row: where they lie. -/
structure TxAt (w : World) (A : Option Addr) (c : Nat) (l : List Bs) : Prop where
  at_ : StrsAt w A l
  cap : l.length ≤ c
  capm : c ≤ maxLen
  zero : l.length = 0 → A = none ∧ c = 0
theorem TxAt.nil (w : World) : TxAt w none 0 [] := ⟨StrsAt.nil _ _, Nat.le_refl _, Nat.zero_le _, fun _ => ⟨rfl, rfl⟩⟩
theorem TxAt.below {w w' : World} {A : Option Addr} {c : Nat} {l : List Bs} (h : TxAt w A c l) (hb : Below w.heap.size w w') : TxAt w' A c l := ⟨h.at_.below hb, h.cap, h.capm, h.zero⟩
theorem addS_ne (s : Bs) (l : List Bs) : (addS l s).length ≠ 0 := by
  cases l with
  | nil => simp [addS]
  | cons x r => unfold addS; split <;> (try split) <;> simp
/-- What the directory's file holds: its bytes; none, if there is none. -/
theorem refget2_any (l : List FX) (A : Option Addr) (c : Nat) (s : ByteArray) (w : World) (h : TreeAt w A c l) (hs : SmallX l) (hb : ∀ x ∈ l, x.b.length ≤ 16384) :
    Calls Tryz.prog 32 #[.slice A l.length c, .string s] w fun e w' => ∃ A2 c2 b f, e = .returned (.tuple #[.slice A2 (List.length b) c2, .bool f]) ∧ BytesAt w' A2 b ∧ b.length ≤ 16384 ∧ (match getT (flsX l) s.data.toList with | none => (0, emptyO) | some b => parseV b) = parseV b ∧ Below w.heap.size w w' := by
  refine (refget_any l A c s w h hs.1).mono ?_
  rintro e w' (⟨h1, rfl, hbl⟩ | ⟨x, hx, h1, rfl, hbl⟩)
  · exact ⟨none, 0, [], false, rfl, BytesAt.nil _ _, Nat.zero_le _, by rw [h1]; rfl, hbl⟩
  · exact ⟨x.A, x.c, x.b, true, rfl, (h.below hbl).files x hx, hb x hx, by rw [h1], hbl⟩
theorem gatherS_bound (p : Bs → Bool) : ∀ (ls : List Ln) (K : List Bs), (∀ x ∈ ls, x.2.length ≤ 16385) → (gatherS K ls p).length ≤ K.length + ls.length * 16385
  | [], K, _ => by simp [gatherS]
  | x :: r, K, h => by
    have h1 := h x (by simp)
    have ha : ∀ (m K : List Bs), (m.foldl addS K).length ≤ K.length + m.length := by
      intro m
      induction m with
      | nil => intro K; simp
      | cons y m ih => intro K; rw [List.foldl_cons]; have := ih (addS K y); have := addS_len y K; simp only [List.length_cons]; omega
    have ih := gatherS_bound p r (if x.1.isEmpty || p x.1 then x.2.foldl addS K else K) (fun y hy => h y (by simp [hy]))
    unfold gatherS at ih ⊢
    rw [List.foldl_cons]
    have hk : (if x.1.isEmpty || p x.1 then x.2.foldl addS K else K).length ≤ K.length + 16385 := by
      split
      · have := ha x.2 K; omega
      · omega
    simp only [List.length_cons]
    omega
theorem foldS_len : ∀ (m K : List Bs), (m.foldl addS K).length ≤ K.length + m.length
  | [], K => by simp
  | y :: m, K => by
    rw [List.foldl_cons]
    have := foldS_len m (addS K y)
    have := addS_len y K
    simp only [List.length_cons]; omega
theorem dirA_mk (s : ByteArray) : dirA s = mkB (dirL s.data.toList) := by
  rcases Lib.lastIndexByte_spec s 47 with ⟨hk, hn⟩ | ⟨i, hi, hk, hc, hn⟩
  · have hr : dirA s = s.extract 0 0 := by unfold dirA; rw [hk]; rfl
    rw [hr, dirL_miss s hn]; apply ByteArray.ext; simp [mkB]
  · have hr : dirA s = s.extract 0 i := by unfold dirA; rw [hk]; congr 1; omega
    rw [hr, dirL_hit s i hi hc hn, ← data_mkB (s.extract 0 i), Lib.extract_data]; simp
theorem refdirL_any (s : ByteArray) (w : World) (hs : s.size ≤ 1000000) : Calls Tryz.prog 27 #[.string s] w fun e w' => e = .returned (.string (mkB (dirL s.data.toList))) ∧ w' = w := by
  rw [← dirA_mk]; exact refdir_any s w hs
theorem refbaseL_any (s : ByteArray) (w : World) (hs : s.size ≤ 1000000) : Calls Tryz.prog 31 #[.string s] w fun e w' => e = .returned (.string (mkB (baseL s.data.toList))) ∧ w' = w := by
  rw [← base_list, data_mkB]; exact refbase_any s w hs
theorem baseL_le (l : Bs) : (baseL l).length ≤ l.length := by
  have := base_list (mkB l)
  rw [mkB_data] at this
  rw [← this, Array.length_toList]
  unfold baseA
  show (ByteArray.extract _ _ _).size ≤ _
  rw [ByteArray.size_extract, mkB_size]; omega
set_option maxRecDepth 100000 in
set_option maxHeartbeats 16000000 in
theorem refof_any (l : List FX) (A : Option Addr) (c : Nat) (s : ByteArray) (w : World) (h : TreeAt w A c l) (hsm : SmallX l) (hb : ∀ x ∈ l, x.b.length ≤ 16384) (hs : s.size ≤ 1000) (hr : rightB s.data.toList = true) :
    Calls Tryz.prog 23 #[.slice A l.length c, .string s] w (TextsPost (ofT (flsX l) s.data.toList) w) := by
  have hof : ofT (flsX l) s.data.toList = ofStep (flsX l) (dirL s.data.toList) (baseL s.data.toList) (ups (dirL s.data.toList)) [] := by unfold ofT; rw [hr]; rfl
  rw [hof]
  obtain ⟨home, hhome⟩ : ∃ x, dirL s.data.toList = x := ⟨_, rfl⟩
  obtain ⟨base, hbase⟩ : ∃ x, baseL s.data.toList = x := ⟨_, rfl⟩
  have hds : home.length ≤ s.size := by
    rw [← hhome]
    have h1 : s.data.toList.length = s.size := Array.length_toList
    by_cases e : s.data.toList = []
    · rw [e]; simp [dirL]
    · have := dir_shorter e; omega
  have hbs : base.length ≤ s.size := by
    rw [← hbase]
    have h1 : s.data.toList.length = s.size := Array.length_toList
    have := baseL_le s.data.toList; omega
  rw [hhome, hbase]
  obtain ⟨r, hrr⟩ : ∃ r, ofStep (flsX l) home base (ups home) [] = r := ⟨_, rfl⟩
  rw [hrr]
  have HOF := Lib.hid hrr
  have HR := Lib.hid (refright_any s w (by omega))
  have HR1 := Lib.hid hr
  have HDIR := Lib.hid (fun W => refdirL_any s W (by omega))
  have HBASE := Lib.hid (fun W => refbaseL_any s W (by omega))
  have HT := Lib.hid h
  have HSM := Lib.hid hsm
  have HBD := Lib.hid hb
  rw [hhome] at HDIR
  rw [hbase] at HBASE
  clear hof hhome hbase hrr hr h hsm hb
  go_enter Tryz.func23, Tryz.ntmps23
  go_wp2_with fail
  refine HR.out.mono ?_
  rintro e w1 ⟨rfl, hb1⟩
  rw [HR1.out]
  have HB1 := Lib.hid hb1
  clear hb1 HR
  go_wp2_with fail
  refine (HDIR.out w1).mono ?_
  rintro e w' ⟨rfl, hw⟩
  have hw := hw.symm
  subst hw
  go_wp2_with fail
  go_loopw [6, 7] (fun v6 v7 wr => ∃ (K : List Bs) (A6 : Option Addr) (c6 : Nat) (d : ByteArray), v6 = .slice A6 K.length c6 ∧ v7 = .string d ∧ TxAt wr A6 c6 K ∧ d.size ≤ s.size ∧ K.length + d.size * 268468225 ≤ s.size * 268468225 ∧ Hid (ofStep (flsX l) home base (ups d.data.toList) K = r) ∧ Below w.heap.size w wr) (fun _ v7 _ => match v7 with | .string d => d.size | _ => 0)
  case atStart => exact ⟨[], none, 0, mkB home, rfl, rfl, TxAt.nil _, by rw [mkB_size]; exact hds, by rw [mkB_size]; simp only [List.length_nil]; omega, by rw [mkB_data]; exact HOF.out, HB1.out⟩
  case round =>
    obtain ⟨K, A6, c6, d, rfl, rfl, hK, hd, hkd, hst, hbr⟩ := hrel
    have HJ := Lib.hid (refjoin_any d ⟨#[79, 87, 78, 69, 82, 83]⟩ wr (by omega) (by decide))
    have HG := Lib.hid (refget2_any l A c (mkB (join2 d.data.toList ownW)) wr (HT.out.below hbr) HSM.out HBD.out)
    rw [mkB_data] at HG
    have hats : atT (flsX l) d.data.toList = (match getT (flsX l) (join2 d.data.toList ownW) with | none => (0, emptyO) | some b => parseV b) := rfl
    rw [← hats] at HG
    have HK := Lib.hid hK
    have HBR := Lib.hid hbr
    clear hats hK hbr
    go_wp2_with fail
    refine HJ.out.mono ?_
    rintro e w' ⟨rfl, hw⟩
    have hw := hw.symm
    subst hw
    go_wp2_with fail
    refine HG.out.mono ?_
    rintro e w2 ⟨A2, c2, b, f, rfl, hbo, hbl2, hat, hb2⟩
    have hcv := run_str w2 A2 c2 b hbo
    have HP := Lib.hid (refparse_any (mkB b) w2 (by rw [mkB_size]; exact hbl2))
    unfold ParsePost at HP
    rw [mkB_data, ← hat] at HP
    have hB2 := HBR.out.trans (hb2.mono HBR.out.size)
    have hK2 := HK.out.below hb2
    have HB2 := Lib.hid hB2
    have HK2 := Lib.hid hK2
    clear hbo hbl2 hb2 hB2 hK2
    go_wp2_with fail
    refine HP.out.mono ?_
    rintro e w3 ⟨v, rfl, hov, hb3⟩
    have hok := atT_ok (flsX l) d.data.toList
    have hst := hst.out
    rw [ups_step, ofStep_cons] at hst
    obtain ⟨e1, he1⟩ : ∃ x, (atT (flsX l) d.data.toList).1 = x := ⟨_, rfl⟩
    obtain ⟨o1, ho1⟩ : ∃ x, (atT (flsX l) d.data.toList).2 = x := ⟨_, rfl⟩
    rw [ho1] at hov hok
    rw [he1, ho1] at hst
    rw [he1]
    obtain ⟨A4, c4, L, rfl, hL, hlo⟩ := ow_agg hov
    obtain ⟨np, ol⟩ := o1
    simp only at hlo hok hst ⊢
    subst hlo
    have hb4 := (hb3.trans ((below_new' w3 (.cells #[.bool np, .slice A4 L.length c4] 24)).mono hb3.size))
    have hn4 := heap_alloc_new w3 (.cells #[.bool np, .slice A4 L.length c4] 24)
    have hL4 := hL.below (below_new' w3 (.cells #[.bool np, .slice A4 L.length c4] 24))
    have hB4 := HB2.out.trans (hb4.mono HB2.out.size)
    have hK4 := HK2.out.below hb4
    by_cases he0 : e1 = 0
    · subst he0
      rw [if_pos rfl] at hst
      have HST := Lib.hid hst
      have HN4 := Lib.hid hn4
      have HL4 := Lib.hid hL4
      have HB4 := Lib.hid hB4
      have HK4 := Lib.hid hK4
      have HOK := Lib.hid hok
      clear hst hn4 hL4 hB4 hK4 hov hL hb3 hb4 hok HP HG HJ he1 ho1 hat HK HBR HB2 HK2
      go_upto_region 9 with (fail)
      obtain ⟨w4, hw4⟩ : ∃ x, w3.alloc (.cells #[.bool np, .slice A4 L.length c4] 24) = x := ⟨_, rfl⟩
      rw [hw4] at HN4 HL4 HB4 HK4 ⊢
      obtain ⟨b10, hb10⟩ : ∃ x, w3.heap.size = x := ⟨_, rfl⟩
      rw [hb10] at HN4 ⊢
      clear hw4 hb10
      go_wp2_with fail
      have hgb := gatherS_bound
      obtain ⟨p, hp⟩ : ∃ x, askB home base d.data.toList = x := ⟨_, rfl⟩
      have HST2 := HST.out
      rw [hp] at HST2
      have HST := Lib.hid HST2
      have HPP := Lib.hid hp
      have HKL : Hid (∀ k, k ≤ L.length → (gatherS K ((lnsX L).take k) p).length ≤ K.length + 268468225) := fun k hk => by
        have h1 := gatherS_bound p ((lnsX L).take k) K (fun x hx => (HOK.out.1 x (List.mem_of_mem_take hx)).2.1)
        have h2 := List.length_take_le k (lnsX L)
        have h3 := HOK.out.2
        have h4 : ((lnsX L).take k).length * 16385 ≤ 16385 * 16385 := by
          have h5 : ((lnsX L).take k).length ≤ 16385 := by rw [List.length_take]; omega
          exact Nat.mul_le_mul_right 16385 h5
        omega
      clear HST2 hp hgb
      have hLl : L.length ≤ 16385 := by have := HOK.out.2; rwa [lnsX_length] at this
      go_loopw [6, 12] (fun v6 v12 wr => ∃ (k : Nat) (A7 : Option Addr) (c7 : Nat), k ≤ L.length ∧ v12 = .int .i64 k ∧ v6 = .slice A7 (gatherS K ((lnsX L).take k) p).length c7 ∧ TxAt wr A7 c7 (gatherS K ((lnsX L).take k) p) ∧ Below w4.heap.size w4 wr) (fun _ v12 _ => L.length - (intOf v12).toNat)
      case atStart => exact ⟨0, _, _, Nat.zero_le _, rfl, rfl, HK4.out, Below.refl _ _⟩
      case round =>
        obtain ⟨k, A7, c7, hk, rfl, rfl, hT7, hbq⟩ := hrel
        have n10 := row_below' HN4.out hbq
        have c10 := cell_of_row wr b10 0 _ _ _ n10
        have c11 := cell_of_row wr b10 1 _ _ _ n10
        obtain ⟨K2, hK2⟩ : ∃ x, gatherS K ((lnsX L).take k) p = x := ⟨_, rfl⟩
        have hkb := HKL.out k hk
        rw [hK2] at hT7 hkb ⊢
        have hLq := HL4.out.below hbq
        by_cases hlt : k < L.length
        · obtain ⟨x, hx⟩ : ∃ x, L[k]? = some x := ⟨_, List.getElem?_eq_getElem hlt⟩
          obtain ⟨g, o, hA, hrow⟩ := hLq.row (by omega)
          subst hA
          have c12 := hrow k x hx
          have hxm := List.mem_of_getElem? hx
          have hown := (hLq.own x hxm).1
          have hxo := HOK.out.1 x.ln (List.mem_map.2 ⟨x, hxm, rfl⟩)
          obtain ⟨xg, xA, xc, xns⟩ := x
          obtain ⟨ok1, ok2, _⟩ := hxo
          have ok1 : xg.size ≤ 16384 := by have : xg.data.toList.length ≤ 16384 := ok1; rwa [Array.length_toList] at this
          have ok2 : xns.length ≤ 16385 := ok2
          have hsn : (lnsX L).take (k + 1) = (lnsX L).take k ++ [(⟨xg, xA, xc, xns⟩ : LX).ln] := by rw [List.take_add_one, lnsX_getElem?, hx]; rfl
          have hgs : gatherS K ((lnsX L).take (k + 1)) p = if xg.data.toList.isEmpty || p xg.data.toList then xns.foldl addS K2 else K2 := by rw [hsn, gatherS_snoc, hK2]; rfl
          have HSN := Lib.hid hgs
          have hkd1 : K2.length + 16385 ≤ 1000000000000 := by omega
          have HKB : Hid (K2.length + xns.length ≤ 1000000000000) := by unfold Hid; omega
          have hb12 := below_new' wr (.cells #[.string xg, .slice xA xns.length xc] 62)
          have hn13 := heap_alloc_new wr (.cells #[.string xg, .slice xA xns.length xc] 62)
          obtain ⟨d1, d2⟩ := c12
          have k1 : (k : Int) < (L.length : Int) := by omega
          have HT2 := Lib.hid (hT7.below hb12)
          have HOW := Lib.hid (hown.below hb12)
          have HB12 := Lib.hid (hbq.trans (hb12.mono hbq.size))
          have HN13 := Lib.hid hn13
          clear hgs hsn hown hrow hx hxm hLq hT7 hbq n10 hb12 hn13 hK2
          have hdh : d.size ≤ 1000 := by omega
          have HMATCH := Lib.hid (fun W => refmatch_any xg (mkB base) W (by omega) (by rw [mkB_size]; omega))
          rw [mkB_data] at HMATCH
          go_upto_region 13 with (fail)
          obtain ⟨W12, hW12⟩ : ∃ x, wr.alloc (.cells #[.string xg, .slice xA xns.length xc] 62) = x := ⟨_, rfl⟩
          rw [hW12] at HT2 HOW HB12 HN13 ⊢
          obtain ⟨b13, hb13⟩ : ∃ x, wr.heap.size = x := ⟨_, rfl⟩
          rw [hb13] at HN13 ⊢
          have c0 := cell_of_row W12 b13 0 _ _ _ HN13.out
          have c1 := cell_of_row W12 b13 1 _ _ _ HN13.out
          clear hW12 hb13 d1 d2
          by_cases hge : xg.toList = []
          · have g1 : (!xg.toList.isEmpty) = false := by simp [hge]
            have g2 : xg.toList.isEmpty = true := by simp [hge]
            have HMT : Hid ((xg.data.toList.isEmpty || p xg.data.toList) = true) := by unfold Hid; rw [← ByteArray.toList_eq, hge]; rfl
            clear HMATCH
            go_quiet (fail)
            have hbW := belowQ (Below.refl W12.heap.size W12) nq
            obtain ⟨WX, hWX⟩ : ∃ x, W12.drewN nq = x := ⟨_, rfl⟩
            rw [hWX] at hbW ⊢
            have HBW := Lib.hid hbW
            clear hbW hWX
            have hbW : Below W12.heap.size W12 WX := HBW.out
            have n13 := row_below' HN13.out hbW
            have hT13 := HT2.out.below hbW
            have hO13 := HOW.out.below hbW
            have hB13 := HB12.out.trans (hbW.mono HB12.out.size)
            have N13 := Lib.hid n13
            have HT13 := Lib.hid hT13
            have HO13 := Lib.hid hO13
            have HB13 := Lib.hid hB13
            clear n13 hT13 hO13 hB13 hbW
            go_wp2_with fail
            go_loopw [6, 15] (fun v6 v15 wr => ∃ (j : Nat) (A8 : Option Addr) (c8 : Nat), j ≤ xns.length ∧ v15 = .int .i64 j ∧ v6 = .slice A8 ((xns.take j).foldl addS K2).length c8 ∧ TxAt wr A8 c8 ((xns.take j).foldl addS K2) ∧ Below WX.heap.size WX wr) (fun _ v15 _ => xns.length - (intOf v15).toNat)
            case atStart => exact ⟨0, _, _, Nat.zero_le _, rfl, rfl, HT13.out, Below.refl _ _⟩
            case round =>
              obtain ⟨j, A8, c8, hj, rfl, rfl, hT8, hbz⟩ := hrel
              obtain ⟨K3, hK3⟩ : ∃ x, (xns.take j).foldl addS K2 = x := ⟨_, rfl⟩
              have hfl : K3.length ≤ K2.length + xns.length := by
                rw [← hK3]
                have := foldS_len (xns.take j) K2
                have := List.length_take_le j xns; omega
              rw [hK3] at hT8 ⊢
              have n13 := row_below' N13.out hbz
              have c1 := cell_of_row wr b13 1 _ _ _ n13
              have hoz := HO13.out.below hbz
              have hBz := HB13.out.trans (hbz.mono HB13.out.size)
              by_cases hjl : j < xns.length
              · obtain ⟨y, hy⟩ : ∃ y, xns[j]? = some y := ⟨_, List.getElem?_eq_getElem hjl⟩
                obtain ⟨g2, o2, hA2, hc2⟩ := hoz (by omega)
                subst hA2
                have c2 := hc2 j y hy
                have hfs : (xns.take (j + 1)).foldl addS K2 = addS K3 y := by rw [List.take_add_one, hy, List.foldl_append, hK3]; rfl
                have HADD := Lib.hid (refadd_any K3 A8 c8 (mkB y) wr hT8.at_ hT8.cap hT8.capm (by have := HKB.out; omega) hT8.zero)
                rw [mkB_data] at HADD
                have HFS := Lib.hid hfs
                have HBZ := Lib.hid hbz
                have j1 : (j : Int) < (xns.length : Int) := by omega
                clear hfs hc2 hy hK3 hT8 n13 hoz hbz hBz hfl
                go_wp2_with fail
                refine HADD.out.mono ?_
                rintro e w9 ⟨A9, c9, rfl, hs9, hc9, hm9, hb9⟩
                have HS9 := Lib.hid hs9
                have HC9 := Lib.hid hc9
                have HB9 := Lib.hid (HBZ.out.trans (hb9.mono HBZ.out.size))
                clear hs9 hc9 hb9
                go_wp2_with fail
                go_roundw
                case rel => exact ⟨j + 1, A9, c9, by omega, by go_num, by rw [HFS.out], by rw [HFS.out]; exact ⟨HS9.out, HC9.out, hm9, fun h => absurd h (addS_ne _ _)⟩, HB9.out⟩
                case measure => simp [intOf]; omega
              · obtain rfl : j = xns.length := by omega
                rw [List.take_of_length_le (Nat.le_refl _)] at hK3
                have hg2 : gatherS K ((lnsX L).take (k + 1)) p = K3 := by rw [HSN.out, if_pos HMT.out, hK3]
                have HG2 := Lib.hid hg2
                have HT8 := Lib.hid hT8
                have HBZ := Lib.hid hBz
                clear hg2 hT8 hBz hbz hoz n13 hK3 hfl
                go_wp2_with fail
                go_roundw
                case rel => exact ⟨k + 1, A8, c8, by omega, by go_num, by rw [HG2.out], by rw [HG2.out]; exact HT8.out, HBZ.out⟩
                case measure => simp [intOf]; omega
          · have g1 : (!xg.toList.isEmpty) = true := by
              cases e : xg.toList with
              | nil => exact absurd e hge
              | cons _ _ => rfl
            have g2 : xg.toList.isEmpty = false := by simpa using hge
            have hge2 : xg.data.toList.isEmpty = false := by rw [← ByteArray.toList_eq]; exact g2
            clear hge
            by_cases hdh2 : d.data.toList = home
            · have hde : d = mkB home := by rw [← hdh2, data_mkB]
              have hpx : p xg.data.toList = matchB xg.data.toList base := by rw [← HPP.out]; unfold askB; rw [hdh2]; simp
              cases hmm : matchB xg.data.toList base with
              | true =>
                have HMM := Lib.hid hmm
                have HMT : Hid ((xg.data.toList.isEmpty || p xg.data.toList) = true) := by unfold Hid; rw [hpx, hmm]; simp
                have hde2 : (d.toList == (mkB home).toList) = true := by rw [hde]; simp
                clear hmm hpx hge2 hdh2 hde
                refine wp_region_held_drew (S := (fun w' => w'.cell? ⟨b13, 0, none⟩ = some (.string xg) ∧ w'.cell? ⟨b13, 1, none⟩ = some (.slice xA xns.length xc))) (by kernel_rfl) ⟨c0, c1⟩ (fun hHeld => ?_)
                refine wpAnyH_take (i := 0) (v := ?vu0) rfl (by kernel_rfl) (by kernel_rfl) (by kernel_rfl) (fun _ _ _ h => h) (Or.inl ⟨by rfl, ?yu0⟩) (by assumption) ?ru0
                case yu0 =>
                  intro w hSw
                  (try dsimp only at hSw)
                  go_simp
                  first | done | with_reducible rfl
                try simp only [Act.put, List.getElem_toArray, List.getElem_cons_zero, List.setIfInBounds_toArray, List.set_cons_zero, List.set_cons_succ]
                refine wpAnyH_take (i := 1) (v := ?vu1) rfl (by kernel_rfl) (by kernel_rfl) (by kernel_rfl) (fun _ _ _ h => h) (Or.inl ⟨by rfl, ?yu1⟩) (by assumption) ?ru1
                case yu1 =>
                  intro w hSw
                  (try dsimp only at hSw)
                  go_simp
                  first | done | with_reducible rfl
                try simp only [Act.put, List.getElem_toArray, List.getElem_cons_zero, List.getElem_cons_succ, List.setIfInBounds_toArray, List.set_cons_zero, List.set_cons_succ]
                refine wpAnyH_take (i := 2) (v := ?vu2) rfl (by kernel_rfl) (by kernel_rfl) (by kernel_rfl) (fun _ _ _ h => h) (Or.inl ⟨by rfl, ?yu2⟩) (by assumption) ?ru2
                case yu2 =>
                  intro w hSw
                  (try dsimp only at hSw)
                  go_simp
                  first | done | with_reducible rfl
                try simp only [Act.put, List.getElem_toArray, List.getElem_cons_zero, List.getElem_cons_succ, List.setIfInBounds_toArray, List.set_cons_zero, List.set_cons_succ]
                refine wpAnyH_take (i := 3) (v := ?vu3) rfl (by kernel_rfl) (by kernel_rfl) (by kernel_rfl) (fun _ _ _ h => h) (Or.inl ⟨by rfl, ?yu3⟩) (by assumption) ?ru3
                case yu3 =>
                  intro w hSw
                  (try dsimp only at hSw)
                  go_simp
                  first | done | with_reducible rfl
                try simp only [Act.put, List.getElem_toArray, List.getElem_cons_zero, List.getElem_cons_succ, List.setIfInBounds_toArray, List.set_cons_zero, List.set_cons_succ]
                refine wpAnyH_take (i := 4) (v := ?vu4) rfl (by kernel_rfl) (by kernel_rfl) (by kernel_rfl) (fun _ _ _ h => h) (Or.inl ⟨by rfl, ?yu4⟩) (by assumption) ?ru4
                case yu4 =>
                  intro w hSw
                  (try dsimp only at hSw)
                  go_simp
                  first | done | with_reducible rfl
                try simp only [Act.put, List.getElem_toArray, List.getElem_cons_zero, List.getElem_cons_succ, List.setIfInBounds_toArray, List.set_cons_zero, List.set_cons_succ]
                refine wpAnyH_take (i := 5) (v := ?vu5) rfl (by kernel_rfl) (by kernel_rfl) (by kernel_rfl) (fun _ _ _ h => h) (Or.inl ⟨by rfl, ?yu5⟩) (by assumption) ?ru5
                case yu5 =>
                  intro w hSw
                  (try dsimp only at hSw)
                  go_simp
                  first | done | with_reducible rfl
                try simp only [Act.put, List.getElem_toArray, List.getElem_cons_zero, List.getElem_cons_succ, List.setIfInBounds_toArray, List.set_cons_zero, List.set_cons_succ]
                refine wpAnyH_ready (rs := [6]) (by kernel_rfl) (by simp) ?_
                refine AllReadyH.cons rfl (fun K hK => ?_) AllReadyH.nil
                go_simp
                refine (HDIR.out _).mono ?_
                rintro e w6 ⟨rfl, hw⟩
                have hw := hw.symm
                subst hw
                go_wp2_with fail
                refine hK.out _ _ hHeld (fun hHeld => ?_)
                clear hK K
                try simp only [Act.put, List.getElem_toArray, List.getElem_cons_zero, List.getElem_cons_succ, List.setIfInBounds_toArray, List.set_cons_zero, List.set_cons_succ]
                refine wpAnyH_take (i := 7) (v := ?vu7) rfl (by kernel_rfl) (by kernel_rfl) (by kernel_rfl) (fun _ _ _ h => h) (Or.inl ⟨by rfl, ?yu7⟩) (by assumption) ?ru7
                case yu7 =>
                  intro w hSw
                  (try dsimp only at hSw)
                  go_simp
                  first | done | with_reducible rfl
                try simp only [Act.put, List.getElem_toArray, List.getElem_cons_zero, List.getElem_cons_succ, List.setIfInBounds_toArray, List.set_cons_zero, List.set_cons_succ]
                refine wpAnyH_take (i := 8) (v := ?vu8) rfl (by kernel_rfl) (by kernel_rfl) (by kernel_rfl) (fun _ _ _ h => h) (Or.inl ⟨by rfl, ?yu8⟩) (by assumption) ?ru8
                case yu8 =>
                  intro w hSw
                  (try dsimp only at hSw)
                  go_simp
                  first | done | with_reducible rfl
                try simp only [Act.put, List.getElem_toArray, List.getElem_cons_zero, List.getElem_cons_succ, List.setIfInBounds_toArray, List.set_cons_zero, List.set_cons_succ]
                refine wpAnyH_take (i := 9) (v := ?vu9) rfl (by kernel_rfl) (by kernel_rfl) (by kernel_rfl) (fun _ _ _ h => h) (Or.inl ⟨by rfl, ?yu9⟩) (by assumption) ?ru9
                case yu9 =>
                  intro w hSw
                  (try dsimp only at hSw)
                  go_simp
                  first | done | with_reducible rfl
                try simp only [Act.put, List.getElem_toArray, List.getElem_cons_zero, List.getElem_cons_succ, List.setIfInBounds_toArray, List.set_cons_zero, List.set_cons_succ]
                refine wpAnyH_take (i := 10) (v := ?vu10) rfl (by kernel_rfl) (by kernel_rfl) (by kernel_rfl) (fun _ _ _ h => h) (Or.inl ⟨by rfl, ?yu10⟩) (by assumption) ?ru10
                case yu10 =>
                  intro w hSw
                  (try dsimp only at hSw)
                  go_simp
                  first | done | with_reducible rfl
                try simp only [Act.put, List.getElem_toArray, List.getElem_cons_zero, List.getElem_cons_succ, List.setIfInBounds_toArray, List.set_cons_zero, List.set_cons_succ]
                refine wpAnyH_take (i := 11) (v := ?vu11) rfl (by kernel_rfl) (by kernel_rfl) (by kernel_rfl) (fun _ _ _ h => h) (Or.inl ⟨by rfl, ?yu11⟩) (by assumption) ?ru11
                case yu11 =>
                  intro w hSw
                  (try dsimp only at hSw)
                  go_simp
                  first | done | with_reducible rfl
                try simp only [Act.put, List.getElem_toArray, List.getElem_cons_zero, List.getElem_cons_succ, List.setIfInBounds_toArray, List.set_cons_zero, List.set_cons_succ]
                refine wpAnyH_ready (rs := [12]) (by kernel_rfl) (by simp) ?_
                refine AllReadyH.cons rfl (fun K hK => ?_) AllReadyH.nil
                go_simp
                refine (HBASE.out _).mono ?_
                rintro e w6 ⟨rfl, hw⟩
                have hw := hw.symm
                subst hw
                go_wp2_with fail
                refine hK.out _ _ hHeld (fun hHeld => ?_)
                clear hK K
                try simp only [Act.put, List.getElem_toArray, List.getElem_cons_zero, List.getElem_cons_succ, List.setIfInBounds_toArray, List.set_cons_zero, List.set_cons_succ]
                refine wpAnyH_ready (rs := [13]) (by kernel_rfl) (by simp) ?_
                refine AllReadyH.cons rfl (fun K hK => ?_) AllReadyH.nil
                go_simp
                refine (HMATCH.out _).mono ?_
                rintro e w7 ⟨rfl, hb7⟩
                rw [HMM.out]
                have k0 := cell_of_row w7 b13 0 _ _ _ (row_below' (W := W12.drew) HN13.out hb7)
                have k1 := cell_of_row w7 b13 1 _ _ _ (row_below' (W := W12.drew) HN13.out hb7)
                have HB7 := Lib.hid hb7
                clear hb7
                go_wp2_with fail
                refine hK.out _ _ ⟨k0, k1⟩ (fun hHeld => ?_)
                clear hK K
                try simp only [Act.put, List.getElem_toArray, List.getElem_cons_zero, List.getElem_cons_succ, List.setIfInBounds_toArray, List.set_cons_zero, List.set_cons_succ]
                refine wpAnyH_take (i := 14) (v := ?vu14) rfl (by kernel_rfl) (by kernel_rfl) (by kernel_rfl) (fun _ _ _ h => h) (Or.inl ⟨by rfl, ?yu14⟩) (by assumption) ?ru14
                case yu14 =>
                  intro w hSw
                  (try dsimp only at hSw)
                  go_simp
                  first | done | with_reducible rfl
                try simp only [Act.put, List.getElem_toArray, List.getElem_cons_zero, List.getElem_cons_succ, List.setIfInBounds_toArray, List.set_cons_zero, List.set_cons_succ]
                refine wpAnyH_take (i := 15) (v := ?vu15) rfl (by kernel_rfl) (by kernel_rfl) (by kernel_rfl) (fun _ _ _ h => h) (Or.inl ⟨by rfl, ?yu15⟩) (by assumption) ?ru15
                case yu15 =>
                  intro w hSw
                  (try dsimp only at hSw)
                  go_simp
                  first | done | with_reducible rfl
                try simp only [Act.put, List.getElem_toArray, List.getElem_cons_zero, List.getElem_cons_succ, List.setIfInBounds_toArray, List.set_cons_zero, List.set_cons_succ]
                refine wpAnyH_take (i := 16) (v := ?vu16) rfl (by kernel_rfl) (by kernel_rfl) (by kernel_rfl) (fun _ _ _ h => h) (Or.inl ⟨by rfl, ?yu16⟩) (by assumption) ?ru16
                case yu16 =>
                  intro w hSw
                  (try dsimp only at hSw)
                  go_simp
                  first | done | with_reducible rfl
                try simp only [Act.put, List.getElem_toArray, List.getElem_cons_zero, List.getElem_cons_succ, List.setIfInBounds_toArray, List.set_cons_zero, List.set_cons_succ]
                refine wpAnyH_done (by kernel_rfl) ?_ _
                have hbW : Below W12.heap.size W12 w7 := (⟨rfl, rfl, rfl, Nat.le_refl _, fun _ _ => rfl⟩ : Below W12.heap.size W12 W12.drew).trans HB7.out
                have n13 := row_below' HN13.out hbW
                have hT13 := HT2.out.below hbW
                have hO13 := HOW.out.below hbW
                have hB13 := HB12.out.trans (hbW.mono HB12.out.size)
                have N13 := Lib.hid n13
                have HT13 := Lib.hid hT13
                have HO13 := Lib.hid hO13
                have HB13 := Lib.hid hB13
                clear n13 hT13 hO13 hB13 hbW
                go_wp2_with fail
                go_loopw [6, 15] (fun v6 v15 wr => ∃ (j : Nat) (A8 : Option Addr) (c8 : Nat), j ≤ xns.length ∧ v15 = .int .i64 j ∧ v6 = .slice A8 ((xns.take j).foldl addS K2).length c8 ∧ TxAt wr A8 c8 ((xns.take j).foldl addS K2) ∧ Below w7.heap.size w7 wr) (fun _ v15 _ => xns.length - (intOf v15).toNat)
                case atStart => exact ⟨0, _, _, Nat.zero_le _, rfl, rfl, HT13.out, Below.refl _ _⟩
                case round =>
                  obtain ⟨j, A8, c8, hj, rfl, rfl, hT8, hbz⟩ := hrel
                  obtain ⟨K3, hK3⟩ : ∃ x, (xns.take j).foldl addS K2 = x := ⟨_, rfl⟩
                  have hfl : K3.length ≤ K2.length + xns.length := by
                    rw [← hK3]
                    have := foldS_len (xns.take j) K2
                    have := List.length_take_le j xns; omega
                  rw [hK3] at hT8 ⊢
                  have n13 := row_below' N13.out hbz
                  have c1 := cell_of_row wr b13 1 _ _ _ n13
                  have hoz := HO13.out.below hbz
                  have hBz := HB13.out.trans (hbz.mono HB13.out.size)
                  by_cases hjl : j < xns.length
                  · obtain ⟨y, hy⟩ : ∃ y, xns[j]? = some y := ⟨_, List.getElem?_eq_getElem hjl⟩
                    obtain ⟨g2, o2, hA2, hc2⟩ := hoz (by omega)
                    subst hA2
                    have c2 := hc2 j y hy
                    have hfs : (xns.take (j + 1)).foldl addS K2 = addS K3 y := by rw [List.take_add_one, hy, List.foldl_append, hK3]; rfl
                    have HADD := Lib.hid (refadd_any K3 A8 c8 (mkB y) wr hT8.at_ hT8.cap hT8.capm (by have := HKB.out; omega) hT8.zero)
                    rw [mkB_data] at HADD
                    have HFS := Lib.hid hfs
                    have HBZ := Lib.hid hbz
                    have j1 : (j : Int) < (xns.length : Int) := by omega
                    clear hfs hc2 hy hK3 hT8 n13 hoz hbz hBz hfl
                    go_wp2_with fail
                    refine HADD.out.mono ?_
                    rintro e w9 ⟨A9, c9, rfl, hs9, hc9, hm9, hb9⟩
                    have HS9 := Lib.hid hs9
                    have HC9 := Lib.hid hc9
                    have HB9 := Lib.hid (HBZ.out.trans (hb9.mono HBZ.out.size))
                    clear hs9 hc9 hb9
                    go_wp2_with fail
                    go_roundw
                    case rel => exact ⟨j + 1, A9, c9, by omega, by go_num, by rw [HFS.out], by rw [HFS.out]; exact ⟨HS9.out, HC9.out, hm9, fun h => absurd h (addS_ne _ _)⟩, HB9.out⟩
                    case measure => simp [intOf]; omega
                  · obtain rfl : j = xns.length := by omega
                    rw [List.take_of_length_le (Nat.le_refl _)] at hK3
                    have hg2 : gatherS K ((lnsX L).take (k + 1)) p = K3 := by rw [HSN.out, if_pos HMT.out, hK3]
                    have HG2 := Lib.hid hg2
                    have HT8 := Lib.hid hT8
                    have HBZ := Lib.hid hBz
                    clear hg2 hT8 hBz hbz hoz n13 hK3 hfl
                    go_wp2_with fail
                    go_roundw
                    case rel => exact ⟨k + 1, A8, c8, by omega, by go_num, by rw [HG2.out], by rw [HG2.out]; exact HT8.out, HBZ.out⟩
                    case measure => simp [intOf]; omega
              | false =>
                have HMM := Lib.hid hmm
                have HMT : Hid ((xg.data.toList.isEmpty || p xg.data.toList) = false) := by unfold Hid; rw [hpx, hmm, hge2]; rfl
                have hde2 : (d.toList == (mkB home).toList) = true := by rw [hde]; simp
                clear hmm hpx hge2 hdh2 hde
                refine wp_region_held_drew (S := (fun w' => w'.cell? ⟨b13, 0, none⟩ = some (.string xg) ∧ w'.cell? ⟨b13, 1, none⟩ = some (.slice xA xns.length xc))) (by kernel_rfl) ⟨c0, c1⟩ (fun hHeld => ?_)
                refine wpAnyH_take (i := 0) (v := ?vv0) rfl (by kernel_rfl) (by kernel_rfl) (by kernel_rfl) (fun _ _ _ h => h) (Or.inl ⟨by rfl, ?yv0⟩) (by assumption) ?rv0
                case yv0 =>
                  intro w hSw
                  (try dsimp only at hSw)
                  go_simp
                  first | done | with_reducible rfl
                try simp only [Act.put, List.getElem_toArray, List.getElem_cons_zero, List.setIfInBounds_toArray, List.set_cons_zero, List.set_cons_succ]
                refine wpAnyH_take (i := 1) (v := ?vv1) rfl (by kernel_rfl) (by kernel_rfl) (by kernel_rfl) (fun _ _ _ h => h) (Or.inl ⟨by rfl, ?yv1⟩) (by assumption) ?rv1
                case yv1 =>
                  intro w hSw
                  (try dsimp only at hSw)
                  go_simp
                  first | done | with_reducible rfl
                try simp only [Act.put, List.getElem_toArray, List.getElem_cons_zero, List.getElem_cons_succ, List.setIfInBounds_toArray, List.set_cons_zero, List.set_cons_succ]
                refine wpAnyH_take (i := 2) (v := ?vv2) rfl (by kernel_rfl) (by kernel_rfl) (by kernel_rfl) (fun _ _ _ h => h) (Or.inl ⟨by rfl, ?yv2⟩) (by assumption) ?rv2
                case yv2 =>
                  intro w hSw
                  (try dsimp only at hSw)
                  go_simp
                  first | done | with_reducible rfl
                try simp only [Act.put, List.getElem_toArray, List.getElem_cons_zero, List.getElem_cons_succ, List.setIfInBounds_toArray, List.set_cons_zero, List.set_cons_succ]
                refine wpAnyH_take (i := 3) (v := ?vv3) rfl (by kernel_rfl) (by kernel_rfl) (by kernel_rfl) (fun _ _ _ h => h) (Or.inl ⟨by rfl, ?yv3⟩) (by assumption) ?rv3
                case yv3 =>
                  intro w hSw
                  (try dsimp only at hSw)
                  go_simp
                  first | done | with_reducible rfl
                try simp only [Act.put, List.getElem_toArray, List.getElem_cons_zero, List.getElem_cons_succ, List.setIfInBounds_toArray, List.set_cons_zero, List.set_cons_succ]
                refine wpAnyH_take (i := 4) (v := ?vv4) rfl (by kernel_rfl) (by kernel_rfl) (by kernel_rfl) (fun _ _ _ h => h) (Or.inl ⟨by rfl, ?yv4⟩) (by assumption) ?rv4
                case yv4 =>
                  intro w hSw
                  (try dsimp only at hSw)
                  go_simp
                  first | done | with_reducible rfl
                try simp only [Act.put, List.getElem_toArray, List.getElem_cons_zero, List.getElem_cons_succ, List.setIfInBounds_toArray, List.set_cons_zero, List.set_cons_succ]
                refine wpAnyH_take (i := 5) (v := ?vv5) rfl (by kernel_rfl) (by kernel_rfl) (by kernel_rfl) (fun _ _ _ h => h) (Or.inl ⟨by rfl, ?yv5⟩) (by assumption) ?rv5
                case yv5 =>
                  intro w hSw
                  (try dsimp only at hSw)
                  go_simp
                  first | done | with_reducible rfl
                try simp only [Act.put, List.getElem_toArray, List.getElem_cons_zero, List.getElem_cons_succ, List.setIfInBounds_toArray, List.set_cons_zero, List.set_cons_succ]
                refine wpAnyH_ready (rs := [6]) (by kernel_rfl) (by simp) ?_
                refine AllReadyH.cons rfl (fun K hK => ?_) AllReadyH.nil
                go_simp
                refine (HDIR.out _).mono ?_
                rintro e w6 ⟨rfl, hw⟩
                have hw := hw.symm
                subst hw
                go_wp2_with fail
                refine hK.out _ _ hHeld (fun hHeld => ?_)
                clear hK K
                try simp only [Act.put, List.getElem_toArray, List.getElem_cons_zero, List.getElem_cons_succ, List.setIfInBounds_toArray, List.set_cons_zero, List.set_cons_succ]
                refine wpAnyH_take (i := 7) (v := ?vv7) rfl (by kernel_rfl) (by kernel_rfl) (by kernel_rfl) (fun _ _ _ h => h) (Or.inl ⟨by rfl, ?yv7⟩) (by assumption) ?rv7
                case yv7 =>
                  intro w hSw
                  (try dsimp only at hSw)
                  go_simp
                  first | done | with_reducible rfl
                try simp only [Act.put, List.getElem_toArray, List.getElem_cons_zero, List.getElem_cons_succ, List.setIfInBounds_toArray, List.set_cons_zero, List.set_cons_succ]
                refine wpAnyH_take (i := 8) (v := ?vv8) rfl (by kernel_rfl) (by kernel_rfl) (by kernel_rfl) (fun _ _ _ h => h) (Or.inl ⟨by rfl, ?yv8⟩) (by assumption) ?rv8
                case yv8 =>
                  intro w hSw
                  (try dsimp only at hSw)
                  go_simp
                  first | done | with_reducible rfl
                try simp only [Act.put, List.getElem_toArray, List.getElem_cons_zero, List.getElem_cons_succ, List.setIfInBounds_toArray, List.set_cons_zero, List.set_cons_succ]
                refine wpAnyH_take (i := 9) (v := ?vv9) rfl (by kernel_rfl) (by kernel_rfl) (by kernel_rfl) (fun _ _ _ h => h) (Or.inl ⟨by rfl, ?yv9⟩) (by assumption) ?rv9
                case yv9 =>
                  intro w hSw
                  (try dsimp only at hSw)
                  go_simp
                  first | done | with_reducible rfl
                try simp only [Act.put, List.getElem_toArray, List.getElem_cons_zero, List.getElem_cons_succ, List.setIfInBounds_toArray, List.set_cons_zero, List.set_cons_succ]
                refine wpAnyH_take (i := 10) (v := ?vv10) rfl (by kernel_rfl) (by kernel_rfl) (by kernel_rfl) (fun _ _ _ h => h) (Or.inl ⟨by rfl, ?yv10⟩) (by assumption) ?rv10
                case yv10 =>
                  intro w hSw
                  (try dsimp only at hSw)
                  go_simp
                  first | done | with_reducible rfl
                try simp only [Act.put, List.getElem_toArray, List.getElem_cons_zero, List.getElem_cons_succ, List.setIfInBounds_toArray, List.set_cons_zero, List.set_cons_succ]
                refine wpAnyH_take (i := 11) (v := ?vv11) rfl (by kernel_rfl) (by kernel_rfl) (by kernel_rfl) (fun _ _ _ h => h) (Or.inl ⟨by rfl, ?yv11⟩) (by assumption) ?rv11
                case yv11 =>
                  intro w hSw
                  (try dsimp only at hSw)
                  go_simp
                  first | done | with_reducible rfl
                try simp only [Act.put, List.getElem_toArray, List.getElem_cons_zero, List.getElem_cons_succ, List.setIfInBounds_toArray, List.set_cons_zero, List.set_cons_succ]
                refine wpAnyH_ready (rs := [12]) (by kernel_rfl) (by simp) ?_
                refine AllReadyH.cons rfl (fun K hK => ?_) AllReadyH.nil
                go_simp
                refine (HBASE.out _).mono ?_
                rintro e w6 ⟨rfl, hw⟩
                have hw := hw.symm
                subst hw
                go_wp2_with fail
                refine hK.out _ _ hHeld (fun hHeld => ?_)
                clear hK K
                try simp only [Act.put, List.getElem_toArray, List.getElem_cons_zero, List.getElem_cons_succ, List.setIfInBounds_toArray, List.set_cons_zero, List.set_cons_succ]
                refine wpAnyH_ready (rs := [13]) (by kernel_rfl) (by simp) ?_
                refine AllReadyH.cons rfl (fun K hK => ?_) AllReadyH.nil
                go_simp
                refine (HMATCH.out _).mono ?_
                rintro e w7 ⟨rfl, hb7⟩
                rw [HMM.out]
                have k0 := cell_of_row w7 b13 0 _ _ _ (row_below' (W := W12.drew) HN13.out hb7)
                have k1 := cell_of_row w7 b13 1 _ _ _ (row_below' (W := W12.drew) HN13.out hb7)
                have HB7 := Lib.hid hb7
                clear hb7
                go_wp2_with fail
                refine hK.out _ _ ⟨k0, k1⟩ (fun hHeld => ?_)
                clear hK K
                try simp only [Act.put, List.getElem_toArray, List.getElem_cons_zero, List.getElem_cons_succ, List.setIfInBounds_toArray, List.set_cons_zero, List.set_cons_succ]
                refine wpAnyH_take (i := 14) (v := ?vv14) rfl (by kernel_rfl) (by kernel_rfl) (by kernel_rfl) (fun _ _ _ h => h) (Or.inl ⟨by rfl, ?yv14⟩) (by assumption) ?rv14
                case yv14 =>
                  intro w hSw
                  (try dsimp only at hSw)
                  go_simp
                  first | done | with_reducible rfl
                try simp only [Act.put, List.getElem_toArray, List.getElem_cons_zero, List.getElem_cons_succ, List.setIfInBounds_toArray, List.set_cons_zero, List.set_cons_succ]
                refine wpAnyH_take (i := 15) (v := ?vv15) rfl (by kernel_rfl) (by kernel_rfl) (by kernel_rfl) (fun _ _ _ h => h) (Or.inl ⟨by rfl, ?yv15⟩) (by assumption) ?rv15
                case yv15 =>
                  intro w hSw
                  (try dsimp only at hSw)
                  go_simp
                  first | done | with_reducible rfl
                try simp only [Act.put, List.getElem_toArray, List.getElem_cons_zero, List.getElem_cons_succ, List.setIfInBounds_toArray, List.set_cons_zero, List.set_cons_succ]
                refine wpAnyH_take (i := 16) (v := ?vv16) rfl (by kernel_rfl) (by kernel_rfl) (by kernel_rfl) (fun _ _ _ h => h) (Or.inl ⟨by rfl, ?yv16⟩) (by assumption) ?rv16
                case yv16 =>
                  intro w hSw
                  (try dsimp only at hSw)
                  go_simp
                  first | done | with_reducible rfl
                try simp only [Act.put, List.getElem_toArray, List.getElem_cons_zero, List.getElem_cons_succ, List.setIfInBounds_toArray, List.set_cons_zero, List.set_cons_succ]
                refine wpAnyH_done (by kernel_rfl) ?_ _
                have hbW : Below W12.heap.size W12 w7 := (⟨rfl, rfl, rfl, Nat.le_refl _, fun _ _ => rfl⟩ : Below W12.heap.size W12 W12.drew).trans HB7.out
                have n13 := row_below' HN13.out hbW
                have hT13 := HT2.out.below hbW
                have hB13 := HB12.out.trans (hbW.mono HB12.out.size)
                have hg2 : gatherS K ((lnsX L).take (k + 1)) p = K2 := by rw [HSN.out, if_neg (by rw [HMT.out]; simp)]
                have HG2 := Lib.hid hg2
                have N13 := Lib.hid n13
                have HT13 := Lib.hid hT13
                have HB13 := Lib.hid hB13
                clear n13 hT13 hB13 hbW hg2
                go_wp2_with fail
                go_loopw [6, 15] (fun v6 v15 wr => v6 = .slice A7 K2.length c7 ∧ v15 = .int .i64 0 ∧ wr = w7) (fun _ _ _ => 0)
                case atStart => exact ⟨rfl, rfl, rfl⟩
                case round =>
                  obtain ⟨rfl, rfl, rfl⟩ := hrel
                  have c1 := cell_of_row _ b13 1 _ _ _ N13.out
                  by_cases hxl : 0 < xns.length <;>
                  · go_wp2_with fail
                    go_roundw
                    case rel => exact ⟨k + 1, A7, c7, by omega, by go_num, by rw [HG2.out], by rw [HG2.out]; exact HT13.out, HB13.out⟩
                    case measure => simp [intOf]; omega
            · have hde2 : (d.toList == (mkB home).toList) = false := by rw [ByteArray.toList_eq, ByteArray.toList_eq, mkB_data, beq_eq_false_iff_ne]; exact hdh2
              have HMT : Hid ((xg.data.toList.isEmpty || p xg.data.toList) = false) := by
                unfold Hid; rw [← HPP.out, hge2]; unfold askB
                rw [beq_eq_false_iff_ne.2 hdh2]; rfl
              clear hge2 hdh2 HMATCH
              go_quiet ((go_at_call 27; exact Calls.quiet_of_same (HDIR.out _)))
              have hbW := belowQ (Below.refl W12.heap.size W12) nq
              obtain ⟨WX, hWX⟩ : ∃ x, W12.drewN nq = x := ⟨_, rfl⟩
              rw [hWX] at hbW ⊢
              have HBW := Lib.hid hbW
              clear hbW hWX
              have hbW : Below W12.heap.size W12 WX := HBW.out
              have n13 := row_below' HN13.out hbW
              have hT13 := HT2.out.below hbW
              have hB13 := HB12.out.trans (hbW.mono HB12.out.size)
              have hg2 : gatherS K ((lnsX L).take (k + 1)) p = K2 := by rw [HSN.out, if_neg (by rw [HMT.out]; simp)]
              have HG2 := Lib.hid hg2
              have N13 := Lib.hid n13
              have HT13 := Lib.hid hT13
              have HB13 := Lib.hid hB13
              clear n13 hT13 hB13 hbW hg2
              go_wp2_with fail
              go_loopw [6, 15] (fun v6 v15 wr => v6 = .slice A7 K2.length c7 ∧ v15 = .int .i64 0 ∧ wr = WX) (fun _ _ _ => 0)
              case atStart => exact ⟨rfl, rfl, rfl⟩
              case round =>
                obtain ⟨rfl, rfl, rfl⟩ := hrel
                have c1 := cell_of_row _ b13 1 _ _ _ N13.out
                by_cases hxl : 0 < xns.length <;>
                · go_wp2_with fail
                  go_roundw
                  case rel => exact ⟨k + 1, A7, c7, by omega, by go_num, by rw [HG2.out], by rw [HG2.out]; exact HT13.out, HB13.out⟩
                  case measure => simp [intOf]; omega
        · obtain rfl : k = L.length := by omega
          rw [List.take_of_length_le (by rw [lnsX_length]; exact Nat.le_refl _)] at hK2
          have hst := HST.out
          rw [hK2] at hst
          have hBq := HB4.out.trans (hbq.mono HB4.out.size)
          have HT7 := Lib.hid hT7
          have HBQ := Lib.hid hBq
          have HDD := Lib.hid (refdirL_any d)
          cases np with
          | true =>
            rw [if_pos rfl] at hst
            have HS := Lib.hid hst
            clear hst hT7 hBq hbq n10 hLq hK2
            go_wp2_with fail
            go_ret2
            exact ⟨A7, c7, by rw [← HS.out]; rfl, by rw [← HS.out]; exact HT7.out.at_, by rw [← HS.out]; exact HT7.out.cap, HT7.out.capm, HBQ.out⟩
          | false =>
            rw [if_neg (by simp)] at hst
            by_cases hde : d.data.toList = []
            · rw [hde] at hst
              have hst : (0, K2) = r := by rw [← hst]; simp [ofStep]
              have g1 : d.toList.isEmpty = true := by rw [ByteArray.toList_eq, hde]; rfl
              have g2 : d.toList = [] := by rw [ByteArray.toList_eq, hde]
              have HS := Lib.hid hst
              clear hst hT7 hBq hbq n10 hLq hK2 hde
              go_wp2_with fail
              go_ret2
              exact ⟨A7, c7, by rw [← HS.out]; rfl, by rw [← HS.out]; exact HT7.out.at_, by rw [← HS.out]; exact HT7.out.cap, HT7.out.capm, HBQ.out⟩
            · have g1 : d.toList.isEmpty = false := by
                rw [ByteArray.toList_eq]
                cases e : d.data.toList with
                | nil => exact absurd e hde
                | cons _ _ => rfl
              have g3 : d.data.toList.isEmpty = false := by rw [← ByteArray.toList_eq]; exact g1
              rw [g3, if_neg (by simp)] at hst
              have hless := dir_less d hde
              have HS := Lib.hid hst
              have HKB2 := Lib.hid hkb
              clear hst hT7 hBq hbq n10 hLq hK2 hde g3 hkb
              go_wp2_with fail
              refine (HDD.out _ (by omega)).mono ?_
              rintro e w' ⟨rfl, hw⟩
              have hw := hw.symm
              subst hw
              go_wp2_with fail
              go_roundw
              case rel => exact ⟨K2, A7, c7, mkB (dirL d.data.toList), rfl, rfl, HT7.out, by omega, by have := HKB2.out; omega, by rw [mkB_data]; exact HS.out, HBQ.out⟩
              case measure => exact hless
    · rw [if_neg he0] at hst
      have g1 : (e1 != 0) = true := by simpa using he0
      have g2 : (e1 = 0) = False := by simpa using he0
      have HST := Lib.hid hst
      have HB4 := Lib.hid hB4
      clear hst hn4 hL4 hB4 hK4 hov hL hb3 hb4 hok HP HG HJ he1 ho1 hat
      go_wp2_with fail
      go_ret2
      exact ⟨none, 0, by rw [← HST.out]; rfl, by rw [← HST.out]; exact StrsAt.nil _ _, by rw [← HST.out]; exact Nat.zero_le _, Nat.zero_le _, HB4.out⟩
end Go.Proofs.YtioiieammmdilaaGreatDoor
namespace Go.Proofs.YtioiieammmdilaaGreatDoor
open Go Go.RowKit Go.Shelf Go.Proofs
attribute [local go_sem] Oper.semAt_some

theorem ofStep_len (t : List Fl) (home base : Bs) : ∀ (ds K : List Bs), (ofStep t home base ds K).2.length ≤ K.length + ds.length * 268468225
  | [], K => by simp [ofStep]
  | d :: ds, K => by
    rw [ofStep_cons]
    have h0 := atT_ok t d
    have h1 := gatherS_bound (askB home base d) (atT t d).2.2 K (fun x hx => (h0.1 x hx).2.1)
    have h2 : (gatherS K (atT t d).2.2 (askB home base d)).length ≤ K.length + 268468225 := by
      have h4 : (atT t d).2.2.length * 16385 ≤ 268468225 := Nat.mul_le_mul_right 16385 h0.2
      exact Nat.le_trans h1 (Nat.add_le_add_left h4 _)
    have h3 := ofStep_len t home base ds (gatherS K (atT t d).2.2 (askB home base d))
    clear h0 h1
    generalize gatherS K (atT t d).2.2 (askB home base d) = G at h2 h3 ⊢
    generalize atT t d = x
    simp only [List.length_cons, Nat.add_mul, Nat.one_mul]
    generalize ds.length * 268468225 = m at h3 ⊢
    split
    · split
      · exact Nat.le_trans h2 (by omega)
      · omega
    · exact Nat.zero_le _
theorem ofT_len (t : List Fl) (s : Bs) (hs : s.length ≤ 1000) : (ofT t s).2.length ≤ 9000000000000 := by
  unfold ofT
  split
  · have h1 := ofStep_len t (dirL s) (baseL s) (ups (dirL s)) []
    have h2 := ups_len (dirL s).length (dirL s) (Nat.le_refl _)
    have h3 : (dirL s).length ≤ s.length := by
      by_cases e : s = []
      · subst e; simp [dirL]
      · exact Nat.le_of_lt (dir_shorter e)
    simp only [List.length_nil] at h1
    omega
  · simp
set_option maxHeartbeats 2000000 in
theorem refof_wrong (l : List FX) (A : Option Addr) (n c : Nat) (s : ByteArray) (w : World) (hs : s.size ≤ 1000) (hr : rightB s.data.toList = false) :
    Calls Tryz.prog 23 #[.slice A n c, .string s] w (TextsPost (ofT (flsX l) s.data.toList) w) := by
  have hof : ofT (flsX l) s.data.toList = (4, []) := by unfold ofT; rw [hr]; rfl
  rw [hof]
  have HR := Lib.hid (refright_any s w (by omega))
  have HR1 := Lib.hid hr
  clear hr hof
  go_enter Tryz.func23, Tryz.ntmps23
  go_wp2_with fail
  refine HR.out.mono ?_
  rintro e w1 ⟨rfl, hb1⟩
  rw [HR1.out]
  have HB1 := Lib.hid hb1
  clear hb1 HR
  go_wp2_with fail
  go_ret2
  exact ⟨none, 0, rfl, StrsAt.nil _ _, Nat.zero_le _, Nat.zero_le _, HB1.out⟩
theorem refof_all (l : List FX) (A : Option Addr) (c : Nat) (s : ByteArray) (w : World) (h : TreeAt w A c l) (hsm : SmallX l) (hb : ∀ x ∈ l, x.b.length ≤ 16384) (hs : s.size ≤ 1000) :
    Calls Tryz.prog 23 #[.slice A l.length c, .string s] w (TextsPost (ofT (flsX l) s.data.toList) w) := by
  cases hr : rightB s.data.toList with
  | true => exact refof_any l A c s w h hsm hb hs hr
  | false => exact refof_wrong l A l.length c s w hs hr

set_option maxRecDepth 100000 in
set_option maxHeartbeats 8000000 in
theorem otells_any (l : List FX) (A : Option Addr) (c : Nat) (s : ByteArray) (w : World) (h : TreeAt w A c l) (hbig : BigX l) (hs : s.size ≤ 1000000000000000) (hm : MaxOk w) (hT : TabsOk w) :
    Calls Tryz.prog 4 #[.slice A l.length c, .string s] w (BoolPost true w) := by
  have HK := Lib.hid (fun (W : World) (hb : Below w.heap.size w W) => oknown_any W (hm.below hb) (hT.below (Nat.le_refl _) hb))
  by_cases h1 : 40 < l.length
  · have g1 : (40 : Int) < (l.length : Int) := by omega
    have HK1 := Lib.hid (HK.out w (Below.refl _ _))
    clear HK h hm hT hbig
    go_enter Tryz.func4, Tryz.ntmps4
    go_wp2_with fail
    refine HK1.out.mono ?_
    rintro e w' ⟨rfl, hb⟩
    go_wp2_with fail
    go_ret
    exact ⟨rfl, hb⟩
  · have g1 : ¬ (40 : Int) < (l.length : Int) := by omega
    have HL := Lib.hid (reflong_any l A c w h (by omega) hbig)
    by_cases h2 : 3000 < longN l
    · have g2 : (3000 : Int) < (longN l : Int) := by omega
      clear h hm hT hbig
      go_enter Tryz.func4, Tryz.ntmps4
      go_wp2_with fail
      refine HL.out.mono ?_
      rintro e w1 ⟨rfl, hb1⟩
      have HK1 := Lib.hid (HK.out w1 hb1)
      have HB1 := Lib.hid hb1
      clear hb1 HL HK
      go_wp2_with fail
      refine HK1.out.mono ?_
      rintro e w' ⟨rfl, hb⟩
      go_wp2_with fail
      go_ret
      exact ⟨rfl, HB1.out.trans (hb.mono HB1.out.size)⟩
    · have g2 : ¬ (3000 : Int) < (longN l : Int) := by omega
      by_cases h3 : 200 < s.size
      · have g3 : (200 : Int) < (s.size : Int) := by omega
        clear h hm hT hbig
        go_enter Tryz.func4, Tryz.ntmps4
        go_wp2_with fail
        refine HL.out.mono ?_
        rintro e w1 ⟨rfl, hb1⟩
        have HK1 := Lib.hid (HK.out w1 hb1)
        have HB1 := Lib.hid hb1
        clear hb1 HL HK
        go_wp2_with fail
        refine HK1.out.mono ?_
        rintro e w' ⟨rfl, hb⟩
        go_wp2_with fail
        go_ret
        exact ⟨rfl, HB1.out.trans (hb.mono HB1.out.size)⟩
      · have g3 : ¬ (200 : Int) < (s.size : Int) := by omega
        have hti : TinyX l := smallL_tiny (by unfold smallL; rw [decide_eq_true (by omega), decide_eq_true (by omega)]; rfl)
        have hbd : ∀ x ∈ l, x.b.length ≤ 16384 := fun x hx => by have := hti.each x hx; omega
        have HO := Lib.hid (fun (W : World) (hb : Below w.heap.size w W) => of_all l A c s W (h.below hb) hti.small (by omega) (hm.below hb) (hT.below (Nat.le_refl _) hb))
        have HR := Lib.hid (fun (W : World) (hb : Below w.heap.size w W) => refof_all l A c s W (h.below hb) hti.small hbd (by omega))
        have hlen := ofT_len (flsX l) s.data.toList (by rw [Array.length_toList]; show s.size ≤ 1000; omega)
        obtain ⟨r, hr⟩ : ∃ r, ofT (flsX l) s.data.toList = r := ⟨_, rfl⟩
        rw [hr] at HO HR hlen
        obtain ⟨r1, r2⟩ := r
        simp only at hlen
        unfold TextsPost at HO HR
        simp only at HO HR
        clear h hm hT hbig hr hti hbd
        go_enter Tryz.func4, Tryz.ntmps4
        go_wp2_with fail
        refine HL.out.mono ?_
        rintro e w1 ⟨rfl, hb1⟩
        have HB1 := Lib.hid hb1
        clear hb1 HL
        go_wp2_with fail
        refine (HO.out w1 HB1.out).mono ?_
        rintro e w2 ⟨A2, c2, rfl, hs2, hc2, hm2, hb2⟩
        have HB2 := Lib.hid (HB1.out.trans (hb2.mono HB1.out.size))
        have HS2 := Lib.hid hs2
        clear hs2 hb2
        go_wp2_with fail
        refine (HR.out w2 HB2.out).mono ?_
        rintro e w3 ⟨A3, c3, rfl, hs3, hc3, hm3, hb3⟩
        have HSM := Lib.hid (sametexts_any r2 r2 A2 A3 c2 c3 w3 (HS2.out.below hb3) hs3 hlen hlen)
        rw [decide_eq_true rfl] at HSM
        have HB3 := Lib.hid (HB2.out.trans (hb3.mono HB2.out.size))
        clear hs3 hb3 HO HR
        go_wp2_with fail
        refine HSM.out.mono ?_
        rintro e w4 ⟨rfl, hb4⟩
        have hB4 := HB3.out.trans (hb4.mono HB3.out.size)
        have HK4 := Lib.hid (HK.out w4 hB4)
        have HB4 := Lib.hid hB4
        clear hb4 hB4 HK HSM
        go_wp2_with fail
        refine HK4.out.mono ?_
        rintro e w5 ⟨rfl, hb5⟩
        go_wp2_with fail
        go_ret
        exact ⟨rfl, HB4.out.trans (hb5.mono HB4.out.size)⟩
end Go.Proofs.YtioiieammmdilaaGreatDoor
