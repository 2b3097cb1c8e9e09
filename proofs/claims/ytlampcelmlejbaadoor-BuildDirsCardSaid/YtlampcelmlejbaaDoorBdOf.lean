/-
  slices.Contains of texts; build.Of: which targets have a file.
-/
import Derived.Test.YtlampcelmlejbaaDoorBdParse
import Derived.Test.YtlampcelmlejbaaDoorBdAll
namespace Go.Proofs.YtlampcelmlejbaaDoor
open Go Go.RowKit Go.Shelf Go.Proofs
attribute [local go_sem] Oper.semAt_some

def BIdx (ss : List Bs) (d : Bs) (w : World) (e : Ending) (w' : World) : Prop := (∃ r : Int, e = .returned (.int .i64 r) ∧ decide (0 ≤ r) = ss.contains d) ∧ w' = w
theorem not_in {ss : List Bs} {d : Bs} (h : ∀ (j : Nat) (p : Bs), ss[j]? = some p → p ≠ d) : ss.contains d = false := by
  rw [← Bool.not_eq_true, List.contains_iff_mem]
  intro hm
  obtain ⟨j, hj⟩ := List.mem_iff_getElem?.1 hm
  exact h j d hj rfl
set_option maxRecDepth 100000 in
set_option maxHeartbeats 4000000 in
theorem bindex_any (A : Option Addr) (c : Nat) (ss : List Bs) (s : ByteArray) (w : World) (h : StrsAt w A ss) (hc : ss.length ≤ c) (hm : c ≤ maxLen) :
    Calls Tryd.prog 58 #[.slice A ss.length c, .string s] w (BIdx ss s.data.toList w) := by
  have HH := Lib.hid h
  obtain ⟨N, hN⟩ : ∃ N, ss.length = N := ⟨_, rfl⟩
  have HN := Lib.hid hN
  unfold maxLen at hm
  rw [hN] at hc ⊢
  clear h hN
  rcases A with _ | ⟨g, o, pA⟩
  · go_enter Tryd.func58, Tryd.ntmps58
    go_wp2_with fail
    go_loop [8] (fun v8 => ∃ k : Nat, k ≤ N ∧ v8 = .int .i64 k ∧ Hid (∀ (j : Nat) (p : Bs), j < k → ss[j]? = some p → p ≠ s.data.toList)) (fun v8 => N - (intOf v8).toNat)
    case atStart => exact ⟨0, Nat.zero_le _, rfl, fun j p hj => absurd hj (Nat.not_lt_zero _)⟩
    case round =>
      obtain ⟨k, hk, rfl, HNO⟩ := hrel
      by_cases h1 : k < N
      · exfalso
        obtain ⟨g', o', hA, hcell⟩ := HH.out (by rw [HN.out]; omega)
        cases hA
      · obtain rfl : k = N := by omega
        go_wp2_with fail
        go_ret
        exact ⟨⟨-1, rfl, by rw [not_in (fun j p hj => HNO.out j p (by rw [← HN.out]; exact (List.getElem?_eq_some_iff.1 hj).1) hj)]; rfl⟩, rfl⟩
  · go_enter Tryd.func58, Tryd.ntmps58
    go_wp2_with fail
    go_loop [8] (fun v8 => ∃ k : Nat, k ≤ N ∧ v8 = .int .i64 k ∧ Hid (∀ (j : Nat) (p : Bs), j < k → ss[j]? = some p → p ≠ s.data.toList)) (fun v8 => N - (intOf v8).toNat)
    case atStart => exact ⟨0, Nat.zero_le _, rfl, fun j p hj => absurd hj (Nat.not_lt_zero _)⟩
    case round =>
      obtain ⟨k, hk, rfl, HNO⟩ := hrel
      by_cases h1 : k < N
      · obtain ⟨p, hp⟩ : ∃ p, ss[k]? = some p := ⟨_, List.getElem?_eq_getElem (by rw [HN.out]; exact h1)⟩
        obtain ⟨g', o', hA, hcell⟩ := HH.out (by rw [HN.out]; omega)
        cases hA
        have c0 := hcell k p hp
        have k1 : (k : Int) < (N : Int) := by omega
        obtain ⟨q, hq⟩ : ∃ q, mkB p = q := ⟨_, rfl⟩
        rw [hq] at c0
        have hqd : q.data.toList = p := by rw [← hq, mkB_data]
        have hcm : (s.toList == q.toList) = (s.data.toList == p) := by rw [ByteArray.toList_eq, ByteArray.toList_eq, hqd]
        have HPP := Lib.hid hp
        clear hp hcell hq hqd
        cases hb : s.data.toList == p with
        | true =>
          rw [hb] at hcm
          have HB := Lib.hid hb
          clear hb
          go_wp2_with fail
          go_ret
          refine ⟨⟨(k : Int), rfl, ?_⟩, rfl⟩
          have h5 : ss.contains s.data.toList = true := by
            rw [List.contains_iff_mem, eq_of_beq HB.out]
            exact List.mem_of_getElem? HPP.out
          rw [h5]
          simp
        | false =>
          rw [hb] at hcm
          have HB := Lib.hid hb
          clear hb
          go_wp2_with fail
          go_round
          case rel =>
            refine ⟨k + 1, by omega, by go_num, fun j p' hj hp' => ?_⟩
            by_cases hjk : j < k
            · exact HNO.out j p' hjk hp'
            · obtain rfl : j = k := by omega
              rw [HPP.out] at hp'
              cases hp'
              exact fun e => by
                have := HB.out
                rw [e] at this
                simp at this
          case measure => simp [intOf]; omega
      · obtain rfl : k = N := by omega
        go_wp2_with fail
        go_ret
        exact ⟨⟨-1, rfl, by rw [not_in (fun j p hj => HNO.out j p (by rw [← HN.out]; exact (List.getElem?_eq_some_iff.1 hj).1) hj)]; rfl⟩, rfl⟩
theorem bcontains_any (A : Option Addr) (c : Nat) (ss : List Bs) (s : ByteArray) (w : World) (h : StrsAt w A ss) (hc : ss.length ≤ c) (hm : c ≤ maxLen) :
    Calls Tryd.prog 34 #[.slice A ss.length c, .string s] w fun e w' => e = .returned (.bool (ss.contains s.data.toList)) ∧ w' = w := by
  have HI := Lib.hid (bindex_any A c ss s w h hc hm)
  obtain ⟨n, hn⟩ : ∃ n, ss.length = n := ⟨_, rfl⟩
  rw [hn] at HI ⊢
  obtain ⟨b, hb⟩ : ∃ b, ss.contains s.data.toList = b := ⟨_, rfl⟩
  rw [hb]
  have HB := Lib.hid hb
  clear h hc hn hb
  go_enter Tryd.func34, Tryd.ntmps34
  go_wp2_with fail
  refine HI.out.mono ?_
  rintro e w1 ⟨⟨r, rfl, hr⟩, hw⟩
  subst hw
  rw [HB.out] at hr
  have HR := Lib.hid hr
  clear hr
  go_wp2_with fail
  go_ret
  exact ⟨by first | rfl | (rw [HR.out]; rfl) | (simp [HR.out]; done), rfl⟩
theorem of_take (l : List TX) (k : Nat) (x : TX) (s : Bs) (h : l[k]? = some x) : ofTg ((tgsX l).take (k + 1)) s = ofTg ((tgsX l).take k) s ++ (if x.s.contains s then [x.n.data.toList] else []) := by
  rw [List.take_add_one, tgsX_getElem?, h]
  unfold ofTg
  rw [Option.map_some, Option.toList_some, List.filter_append, List.map_append]
  congr 1
  rw [List.filter_cons]
  show List.map Tg.n (if x.s.contains s = true then [x.tg] else []) = _
  split <;> rfl
theorem cell_one_newS (W : World) (a : Value) (t : TypeId) : ∀ (j : Nat) (u : Value), ([a] : List Value)[j]? = some u → (W.alloc (.cells #[a] t)).cell? ((⟨W.heap.size, 0, none⟩ : Addr).add j) = some u := fun j u hj => by
  have hn := heap_alloc_new W (.cells #[a] t)
  rw [Go.WideShapes.add_plain, Nat.zero_add, cell_of_row _ _ _ _ _ _ hn]
  match j, hj with
  | 0, hj => exact hj
  | j + 1, hj => simp at hj

set_option maxRecDepth 100000 in
set_option maxHeartbeats 8000000 in
theorem bof_any (l : List TX) (A : Option Addr) (c : Nat) (s : ByteArray) (w : World) (h : TgsAt w A c l) (hl : l.length ≤ 1000000) :
    Calls Tryd.prog 14 #[.slice A l.length c, .string s] w (WordsT w (ofTg (tgsX l) s.data.toList)) := by
  have HH := Lib.hid h
  obtain ⟨N, hN⟩ : ∃ N, l.length = N := ⟨_, rfl⟩
  have HN := Lib.hid hN
  rw [hN] at hl ⊢
  obtain ⟨i0, hi, hz0, hz1, hz2⟩ := info_parts string_info
  have HI := Lib.hid hi
  clear h hN hi
  go_enter Tryd.func14, Tryd.ntmps14
  go_wp2_with fail
  go_loopw [5, 10] (fun v5 v10 wr => ∃ (k : Nat) (v : Value) (P : List Bs), k ≤ N ∧ v10 = .int .i64 k ∧ v5 = v ∧ Hid (P = ofTg ((tgsX l).take k) s.data.toList) ∧ P.length ≤ k ∧ Hid (wr.ownsRow w.heap.size 9 1 v P.length (strVs P)) ∧ Below w.heap.size w wr) (fun _ v10 _ => N - (intOf v10).toNat)
  case atStart => exact ⟨0, .slice none 0 0, [], Nat.zero_le _, rfl, rfl, rfl, Nat.le_refl _, World.ownsRow_nil _ _ _ _, Below.refl _ _⟩
  case round =>
    obtain ⟨k, v, P, hk, rfl, hv, HP, hPk, HOW, hbr⟩ := hrel
    have hv' := hv.symm
    subst hv'
    clear hv
    have HBR := Lib.hid hbr
    clear hbr
    by_cases h1 : k < N
    · have k1 : (k : Int) < (N : Int) := by omega
      obtain ⟨x, hx⟩ : ∃ x, l[k]? = some x := ⟨_, List.getElem?_eq_getElem (by rw [HN.out]; exact h1)⟩
      obtain ⟨g, o, hA, hr⟩ := (HH.out.below HBR.out).row (by rw [HN.out]; omega)
      subst hA
      obtain ⟨d0, d1, d2⟩ := hr k x hx
      have hst := of_take l k x s.data.toList hx
      have hxo := HH.out.own x (List.mem_of_getElem? hx)
      obtain ⟨xn, xA, xc, xs, xB, xb, xd⟩ := x
      simp only at d0 d1 d2 hst
      obtain ⟨ns, hns⟩ : ∃ ns, xs.length = ns := ⟨_, rfl⟩
      obtain ⟨nd, hnd⟩ : ∃ nd, xd.length = nd := ⟨_, rfl⟩
      rw [hns] at d1
      rw [hnd] at d2
      obtain ⟨W1, hW1⟩ : ∃ W, wr.alloc (.cells #[.string xn, .slice xA ns xc, .slice xB nd xb] 37) = W := ⟨_, rfl⟩
      have hn1 : W1.heap[wr.heap.size]? = some (.cells #[.string xn, .slice xA ns xc, .slice xB nd xb] 37 (0, 0)) := by rw [← hW1]; exact heap_alloc_new _ _
      have HB1 := Lib.hid (show Below w.heap.size w W1 by rw [← hW1]; exact HBR.out.alloc HBR.out.size _)
      have HOW1 := Lib.hid (show W1.ownsRow w.heap.size 9 1 v P.length (strVs P) by rw [← hW1]; exact HOW.out.alloc _)
      have HCO := bcontains_any xA xc xs s W1 (hxo.s.below HB1.out) hxo.sc hxo.cm
      rw [hns] at HCO
      obtain ⟨bb, hbb⟩ : ∃ bb, xs.contains s.data.toList = bb := ⟨_, rfl⟩
      rw [hbb] at HCO hst
      have HCO := Lib.hid HCO
      have HST := Lib.hid hst
      have e0 : W1.cell? ⟨wr.heap.size, 0, none⟩ = some (.string xn) := cell_of_row _ _ 0 _ _ _ hn1
      have e1 : W1.cell? ⟨wr.heap.size, 1, none⟩ = some (.slice xA ns xc) := cell_of_row _ _ 1 _ _ _ hn1
      have HW1 := Lib.hid hW1
      clear hW1 hn1 hns hnd hr hx hxo hst hbb
      cases bb with
      | false =>
        have hP2 : P = ofTg ((tgsX l).take (k + 1)) s.data.toList := by rw [HST.out, ← HP.out]; simp
        have HP2 := Lib.hid hP2
        clear hP2
        go_upto_region 5 with fail
        rw [HW1.out]
        clear d0 d1 d2
        go_wp2_with fail
        refine HCO.out.mono ?_
        rintro e w2 ⟨rfl, hw⟩
        have hw := hw.symm
        subst hw
        go_wp2_with fail
        go_roundw
        case rel => exact ⟨k + 1, v, P, by omega, by go_num, rfl, HP2.out, by omega, HOW1.out, HB1.out⟩
        case measure => simp [intOf]; omega
      | true =>
        have hP2 : P ++ [xn.data.toList] = ofTg ((tgsX l).take (k + 1)) s.data.toList := by rw [HST.out, ← HP.out]; simp
        have HP2 := Lib.hid hP2
        clear hP2
        have HOW2 := Lib.hid (show (W1.alloc (.cells #[.string xn] 9)).ownsRow w.heap.size 9 1 v P.length (strVs P) from HOW1.out.alloc _)
        go_upto_region 5 with fail
        rw [HW1.out]
        clear d0 d1 d2
        go_wp2_with fail
        refine HCO.out.mono ?_
        rintro e w2 ⟨rfl, hw⟩
        have hw := hw.symm
        subst hw
        go_upto_region 7 with (at_builtin; go_loud (refine wpList_append_own _ rfl _ _ 34 rfl w.heap.size 9 i0 (.string ⟨#[]⟩) 1 16 Tryd.underlying34 HI.out hz0 hz1 hz2 rfl (by decide) v P.length (strVs P) rfl HOW2.out ⟨W1.heap.size, 0, none⟩ 1 1 [.string xn] rfl rfl (cell_one_newS _ _ _) (by intro u hu; rw [List.mem_singleton] at hu; subst hu; rfl) (by unfold maxLen; omega) (by omega) (by rw [World.size_alloc]; have := HB1.out.size; omega) ?_; intro v7 w7 hown7 hgr7 hnil7; have hb7 : Below w.heap.size w w7 := (HB1.out.alloc HB1.out.size _).grown hgr7 (by rw [World.size_alloc]; have := HB1.out.size; omega) (by intro kk hkk; exact (row_ge HOW2.out hkk).1); have HB7 := Lib.hid hb7; have HO7 := Lib.hid hown7; clear hown7 hgr7 hnil7 hb7))
        clear e0 e1
        go_wp2_with fail
        go_roundw
        case rel =>
          refine ⟨k + 1, _, P ++ [xn.data.toList], by omega, by go_num, rfl, HP2, by rw [List.length_append, List.length_singleton]; omega, ?_, HB7.out⟩
          have e : strVs (P ++ [xn.data.toList]) = strVs P ++ [.string xn] := by simp [strVs, strV, data_mkB]
          unfold Hid
          rw [e, List.length_append]
          exact HO7.out
        case measure => simp [intOf]; omega
    · obtain rfl : k = N := by omega
      obtain ⟨A', c', rfl, hs', h1', h2'⟩ := strsT_ownT HOW.out rfl
      have hP2 : P = ofTg (tgsX l) s.data.toList := by
        have := HP.out
        rwa [List.take_of_length_le (by rw [tgsX_length, HN.out]; exact Nat.le_refl _)] at this
      have HP2 := Lib.hid hP2
      have HST := Lib.hid hs'
      obtain ⟨nP, hnP⟩ : ∃ nP, P.length = nP := ⟨_, rfl⟩
      rw [hnP] at h1'
      have HNP := Lib.hid hnP
      rw [hnP]
      clear hP2 hs' hnP
      go_wp2_with fail
      go_ret
      exact ⟨A', c', by rw [← HP2.out, HNP.out]; rfl, by rw [← HP2.out]; exact HST.out.at_, by rw [← HP2.out, HNP.out]; exact h1', h2', HBR.out⟩
end Go.Proofs.YtlampcelmlejbaaDoor
