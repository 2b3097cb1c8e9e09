/-
  The contract of build.whole: has each target a name of its own, and is what it stands on there?
-/
import Derived.Test.YtckpojkbcbogbaaDoorBdParse
import Derived.Test.YtckpojkbcbogbaaDoorBdTarget
import Derived.Maps.OwnSet
namespace Go.Proofs.YtckpojkbcbogbaaDoor
open Go Go.RowKit Go.Shelf Go.Proofs Go.ChangeMaps Go.Maps Go.WideMaps
attribute [local go_sem] Oper.semAt_some

/-- The map's keys are K's; it has as many as K, just if K has each once. -/
def SetK (W : World) (m k : Nat) (K : List Bs) : Prop := ∃ (kk : Nat) (D : DataW Unit), W.ownsMap Tryd.prog 9 unitElem m kk D ∧ kk ≤ k ∧ (∀ s : Bs, Maps.has D (.string s) = true ↔ s ∈ K) ∧ Maps.size D ≤ K.length ∧ (Maps.size D = K.length ↔ K.Nodup)
theorem SetK.keep {w w' : World} {m k : Nat} {K : List Bs} (h : SetK w m k K) (hk : ∀ o, w.heap[m]? = some o → w'.heap[m]? = some o) : SetK w' m k K := by
  obtain ⟨kk, D, ⟨es, clock, he, F, hs, hD⟩, r⟩ := h
  exact ⟨kk, D, ⟨es, clock, hk _ he, F, hs, hD⟩, r⟩
theorem SetK.lt {w : World} {m k : Nat} {K : List Bs} (h : SetK w m k K) : m < w.heap.size := by
  obtain ⟨kk, D, ⟨es, clock, he, _⟩, _⟩ := h
  exact (Array.getElem?_eq_some_iff.1 he).1
theorem SetK.made (w : World) : SetK (w.alloc (.map #[] 0)) w.heap.size 0 [] :=
  ⟨0, .map [], World.ownsMap_made w _ _ _, Nat.le_refl _, fun s => by simp [Maps.has], Nat.le_refl _, by simp [Maps.size]⟩
theorem SetK.put {W W' : World} {m k n : Nat} {K : List Bs} {D : DataW Unit} {s : Bs} (h0 : W.ownsMap Tryd.prog 9 unitElem m k D) (h1 : W'.ownsMap Tryd.prog 9 unitElem m (k + 1) (D.put (.string s) (.agg []))) (hk : k ≤ n)
    (h3 : ∀ s : Bs, Maps.has D (.string s) = true ↔ s ∈ K) (h4 : Maps.size D ≤ K.length) (h5 : Maps.size D = K.length ↔ K.Nodup) : SetK W' m (n + 1) (K ++ [s]) := by
  have hT := h0.tidy skeyedB
  have hkl : WideAt.IsKeyLit (.string s) := by simp [WideAt.IsKeyLit]
  refine ⟨k + 1, _, h1, by omega, fun t => ?_, ?_, ?_⟩
  · by_cases e : t = s
    · subst e
      rw [Maps.has_put_same hT.isMap hkl]; simp
    · rw [Maps.has_put_other (fun h => e (by simpa using h)), h3 t]
      simp [e]
  · rw [Maps.size_put hT, List.length_append, List.length_singleton]
    split <;> omega
  · rw [Maps.size_put hT, List.length_append, List.length_singleton, List.nodup_append]
    by_cases e : Maps.has D (.string s) = true
    · rw [if_pos e]
      have hm := (h3 s).1 e
      constructor
      · intro hh; omega
      · rintro ⟨_, _, hd⟩
        exact absurd rfl (hd s hm s (by simp))
    · rw [if_neg e]
      have hm : s ∉ K := fun hm => e ((h3 s).2 hm)
      constructor
      · intro hh
        refine ⟨h5.1 (by omega), by simp, fun a ha b hb => ?_⟩
        obtain rfl : b = s := by simpa using hb
        exact fun e => hm (e ▸ ha)
      · rintro ⟨hn, _, _⟩
        have := h5.2 hn
        omega
theorem names_take (l : List TX) (k : Nat) (x : TX) (h : l[k]? = some x) : ((tgsX l).take (k + 1)).map Tg.n = ((tgsX l).take k).map Tg.n ++ [x.n.data.toList] := by
  rw [List.take_add_one, tgsX_getElem?, h]
  simp [TX.tg]

set_option maxRecDepth 100000 in
set_option maxHeartbeats 16000000 in
theorem bwhole_any (A : Option Addr) (c : Nat) (l : List TX) (w : World) (h : TgsAt w A c l) (hl : l.length ≤ 1000000) (hz : ∀ x ∈ l, x.n.size ≤ 1000000 ∧ x.d.length ≤ 1000000 ∧ ∀ d ∈ x.d, d.length ≤ 1000000) :
    Calls Tryd.prog 27 #[.slice A l.length c] w fun e w' => e = .returned (.int .i64 (wholeT (tgsX l))) ∧ Below w.heap.size w w' := by
  obtain ⟨N, hN⟩ : ∃ N, l.length = N := ⟨_, rfl⟩
  have HN := Lib.hid hN
  have HH := Lib.hid h
  have HZ := Lib.hid hz
  rw [hN] at hl ⊢
  obtain ⟨mb, hmb⟩ : ∃ mb, w.heap.size = mb := ⟨_, rfl⟩
  obtain ⟨W0, hW0⟩ : ∃ W, w.alloc (.map #[] 0) = W := ⟨_, rfl⟩
  have hmk := run_makeMap_plain (P := Tryd.prog) w 67
  rw [hmb, hW0] at hmk
  have HS0 := Lib.hid (show SetK W0 mb 0 [] by rw [← hW0, ← hmb]; exact SetK.made w)
  have HB0 := Lib.hid (show Below w.heap.size w W0 by rw [← hW0]; exact (Below.refl _ _).alloc (Nat.le_refl _) _)
  have HMB := Lib.hid hmb
  clear hN h hz hmb hW0
  go_enter Tryd.func27, Tryd.ntmps27
  go_wp2_with fail
  clear hmk
  go_loopw [15] (fun v15 wr => ∃ k : Nat, k ≤ N ∧ v15 = .int .i64 k ∧ Hid (SetK wr mb k (((tgsX l).take k).map Tg.n)) ∧ Below w.heap.size w wr) (fun v15 _ => N - (intOf v15).toNat)
  case atStart => exact ⟨0, Nat.zero_le _, rfl, HS0.out, HB0.out⟩
  case round =>
    obtain ⟨k, hk, rfl, HSK, hbr⟩ := hrel
    have HBR := Lib.hid hbr
    clear hbr
    by_cases h1 : k < N
    · have k1 : (k : Int) < (N : Int) := by omega
      obtain ⟨x, hx⟩ : ∃ x, l[k]? = some x := ⟨_, List.getElem?_eq_getElem (by rw [HN.out]; exact h1)⟩
      obtain ⟨g, o, hA, hr⟩ := (HH.out.below HBR.out).row (by rw [HN.out]; omega)
      subst hA
      obtain ⟨d0, d1, d2⟩ := hr k x hx
      obtain ⟨kk, D, hown, hkk, hhas, hsz, hnd⟩ := HSK.out
      have hxz := (HZ.out x (List.mem_of_getElem? hx)).1
      have hkey : keyOf Tryd.prog 9 (.string x.n) = some (.string x.n.data.toList) := keyOf_string_mk (P := Tryd.prog) Tryd.underlying9 (by unfold maxLen; omega)
      have HKEY := Lib.hid hkey
      have HB1 := Lib.hid (HBR.out.alloc HBR.out.size (.cells #[.string x.n, .slice x.A x.s.length x.c, .slice x.B x.d.length x.b] 37))
      have hmlt := HSK.out.lt
      have HOWN1 := Lib.hid (show (wr.alloc (.cells #[.string x.n, .slice x.A x.s.length x.c, .slice x.B x.d.length x.b] 37)).ownsMap Tryd.prog 9 unitElem mb kk D by
        obtain ⟨es, clock, he, F, hs, hD⟩ := hown
        exact ⟨es, clock, (Below.heap_alloc _ _ _ hmlt).trans he, F, hs, hD⟩)
      have HNT := Lib.hid (names_take l k x hx)
      have HHAS := Lib.hid hhas
      have HSZ := Lib.hid hsz
      have HND := Lib.hid hnd
      clear hkey hown hhas hsz hnd hr hx
      go_wp2_with (at_mapUpdate; go_loud (refine wpList_mapUpdate_own _ rfl _ _ _ 67 rfl 9 93 skeyedB Tryd.underlying67 unitElem mb kk D rfl HOWN1.out (by unfold maxLen; omega) _ _ _ rfl rfl HKEY.out (.agg []) [] unitElem_mk ?_; intro w5 hown5 hgr5; have HOWN5 := Lib.hid hown5; have HGR5 := Lib.hid hgr5; clear hown5 hgr5))
      go_roundw
      case rel =>
        refine ⟨k + 1, by omega, by go_num, ?_, ?_⟩
        · unfold Hid
          rw [HNT.out]
          exact SetK.put HOWN1.out HOWN5.out hkk HHAS.out HSZ.out HND.out
        · exact HB1.out.grown HGR5.out HB1.out.size (by intro kk' e; cases e; rw [HMB.out]; exact Nat.le_refl _)
      case measure => simp [intOf]; omega
    · obtain rfl : k = N := by omega
      obtain ⟨wc, hwc⟩ : ∃ wc, wc = wr := ⟨_, rfl⟩
      subst hwc
      have hKl : (((tgsX l).take k).map Tg.n) = (tgsX l).map Tg.n := by rw [List.take_of_length_le (by rw [tgsX_length, HN.out]; exact Nat.le_refl _)]
      have HSN : Hid (SetK wc mb k ((tgsX l).map Tg.n)) := by unfold Hid; rw [← hKl]; exact HSK.out
      obtain ⟨kk, D, hown, hkk, hhas, hsz, hnd⟩ := HSN.out
      rw [List.length_map, tgsX_length, HN.out] at hsz hnd
      obtain ⟨sz, hszz⟩ : ∃ sz, Maps.size D = sz := ⟨_, rfl⟩
      rw [hszz] at hsz hnd
      have HOWN := Lib.hid hown
      have HSZZ := Lib.hid hszz
      have HND := Lib.hid hnd
      clear hown hszz hnd hhas hKl
      by_cases hlt : sz < k
      · have b1 : (sz : Int) < (k : Int) := by omega
        have hw : wholeT (tgsX l) = 12 := by
          unfold wholeT
          rw [if_neg (fun e => by have := HND.out.2 e; omega)]
        have HW := Lib.hid hw
        clear hw hlt
        go_wp2_with (at_len; go_loud (refine wpList_len_own _ rfl _ 67 rfl 9 93 Tryd.underlying67 _ mb kk D rfl HOWN.out ?_; rw [HSZZ.out]))
        go_ret
        exact ⟨by rw [HW.out]; rfl, HBR.out⟩
      · have b1 : ¬ (sz : Int) < (k : Int) := by omega
        have HNO := Lib.hid (HND.out.1 (by omega))
        clear hlt
        go_wp2_with (at_len; go_loud (refine wpList_len_own _ rfl _ 67 rfl 9 93 Tryd.underlying67 _ mb kk D rfl HOWN.out ?_; rw [HSZZ.out]))
        clear b1
        go_loopw [31] (fun v31 wr => ∃ i : Nat, i ≤ k ∧ v31 = .int .i64 i ∧ Hid (∀ y ∈ (tgsX l).take i, y.d.all (fun d => hasN (tgsX l) d) = true) ∧ Hid (SetK wr mb k ((tgsX l).map Tg.n)) ∧ Below w.heap.size w wr) (fun v31 _ => k - (intOf v31).toNat)
        case atStart => exact ⟨0, Nat.zero_le _, rfl, fun y hy => by simp at hy, HSN.out, HBR.out⟩
        case round =>
          obtain ⟨i, hi, rfl, HAL, HSK2, hbr2⟩ := hrel
          have HB2 := Lib.hid hbr2
          clear hbr2
          by_cases h2 : i < k
          · have i1 : (i : Int) < (k : Int) := by omega
            obtain ⟨x, hx⟩ : ∃ x, l[i]? = some x := ⟨_, List.getElem?_eq_getElem (by rw [HN.out]; exact h2)⟩
            obtain ⟨g, o, hA, hr⟩ := (HH.out.below HB2.out).row (by rw [HN.out]; omega)
            subst hA
            obtain ⟨d0, d1, d2⟩ := hr i x hx
            have hxm := List.mem_of_getElem? hx
            have hxz := (HZ.out x hxm).2.1
            have HXZ := Lib.hid (HZ.out x hxm).2.2
            have HXO := Lib.hid (HH.out.own x hxm)
            have HBX := Lib.hid (HB2.out.alloc HB2.out.size (.cells #[.string x.n, .slice x.A x.s.length x.c, .slice x.B x.d.length x.b] 37))
            have hmlt := HSK2.out.lt
            have HSX := Lib.hid (HSK2.out.keep (w' := wr.alloc (.cells #[.string x.n, .slice x.A x.s.length x.c, .slice x.B x.d.length x.b] 37)) fun o ho => (Below.heap_alloc _ _ _ hmlt).trans ho)
            have hdc := HXO.out.dc
            have HTK := Lib.hid (show ∀ y ∈ (tgsX l).take (i + 1), y ∈ (tgsX l).take i ∨ y = x.tg from fun y hy => by
              rw [List.take_add_one, tgsX_getElem?, hx] at hy
              rcases List.mem_append.1 hy with hy | hy
              · exact .inl hy
              · exact .inr (by simpa using hy))
            have HXM := Lib.hid hxm
            obtain ⟨BB, hBB⟩ : ∃ BB, x.B = BB := ⟨_, rfl⟩
            have HBE := Lib.hid hBB
            rw [hBB] at d2 HBX HSX
            clear hBB
            obtain ⟨nd, hndd⟩ : ∃ nd, x.d.length = nd := ⟨_, rfl⟩
            have HNDD := Lib.hid hndd
            rw [hndd] at d2 hxz hdc HSX HBX
            clear hx hr hxm hndd
            rcases BB with _ | ⟨gB, oB, pB⟩
            · go_wp2_with fail
              obtain ⟨WX, hWX⟩ : ∃ W, wr.alloc (.cells #[.string x.n, .slice x.A x.s.length x.c, .slice none nd x.b] 37) = W := ⟨_, rfl⟩
              rw [hWX] at HSX HBX
              rw [hWX]
              clear hWX d0 d1 d2
              go_loopw [38] (fun v38 wr => ∃ j : Nat, j ≤ nd ∧ v38 = .int .i64 j ∧ Hid (∀ d ∈ x.d.take j, hasN (tgsX l) d = true) ∧ Hid (SetK wr mb k ((tgsX l).map Tg.n)) ∧ Below w.heap.size w wr) (fun v38 _ => nd - (intOf v38).toNat)
              case atStart => exact ⟨0, Nat.zero_le _, rfl, fun d hd => by simp at hd, HSX.out, HBX.out⟩
              case round =>
                obtain ⟨j, hj, rfl, HDL, HSK3, hbr3⟩ := hrel
                have HB3 := Lib.hid hbr3
                clear hbr3
                by_cases h3 : j < nd
                · exfalso
                  obtain ⟨gB', oB', hB, hc⟩ := (HXO.out.below HB3.out).d (by rw [HNDD.out]; omega)
                  rw [HBE.out] at hB
                  cases hB
                · obtain rfl : j = nd := by omega
                  have HNEW : Hid (∀ y ∈ (tgsX l).take (i + 1), y.d.all (fun d => hasN (tgsX l) d) = true) := by
                    intro y hy
                    rcases HTK.out y hy with h | rfl
                    · exact HAL.out y h
                    · rw [List.all_eq_true]
                      intro d hd
                      have e : x.d.take j = x.d := List.take_of_length_le (by rw [HNDD.out]; exact Nat.le_refl _)
                      exact HDL.out d (by rw [e]; exact hd)
                  go_wp2_with fail
                  go_roundw
                  case rel => exact ⟨i + 1, by omega, by go_num, HNEW.out, HSK3.out, HB3.out⟩
                  case measure => simp [intOf]; omega
            · go_wp2_with fail
              obtain ⟨WX, hWX⟩ : ∃ W, wr.alloc (.cells #[.string x.n, .slice x.A x.s.length x.c, .slice (some ⟨gB, oB, pB⟩) nd x.b] 37) = W := ⟨_, rfl⟩
              rw [hWX] at HSX HBX
              rw [hWX]
              clear hWX d0 d1 d2
              go_loopw [38] (fun v38 wr => ∃ j : Nat, j ≤ nd ∧ v38 = .int .i64 j ∧ Hid (∀ d ∈ x.d.take j, hasN (tgsX l) d = true) ∧ Hid (SetK wr mb k ((tgsX l).map Tg.n)) ∧ Below w.heap.size w wr) (fun v38 _ => nd - (intOf v38).toNat)
              case atStart => exact ⟨0, Nat.zero_le _, rfl, fun d hd => by simp at hd, HSX.out, HBX.out⟩
              case round =>
                obtain ⟨j, hj, rfl, HDL, HSK3, hbr3⟩ := hrel
                have HB3 := Lib.hid hbr3
                clear hbr3
                by_cases h3 : j < nd
                · have j1 : (j : Int) < (nd : Int) := by omega
                  obtain ⟨d, hd⟩ : ∃ d, x.d[j]? = some d := ⟨_, List.getElem?_eq_getElem (by rw [HNDD.out]; exact h3)⟩
                  obtain ⟨gB', oB', hB, hc⟩ := (HXO.out.below HB3.out).d (by rw [HNDD.out]; omega)
                  rw [HBE.out] at hB
                  cases hB
                  have c0 := hc j d hd
                  have hdm := List.mem_of_getElem? hd
                  have hdz := HXZ.out d hdm
                  obtain ⟨q, hq⟩ : ∃ q, mkB d = q := ⟨_, rfl⟩
                  rw [hq] at c0
                  have hqd : q.data.toList = d := by rw [← hq, mkB_data]
                  have hqz : q.size ≤ 1000000 := by rw [← hq, mkB_size]; exact hdz
                  have hkey : keyOf Tryd.prog 9 (.string q) = some (.string d) := by rw [← hqd]; exact keyOf_string_mk (P := Tryd.prog) Tryd.underlying9 (by unfold maxLen; omega)
                  obtain ⟨kk, D3, hown3, hkk3, hhas3, _⟩ := HSK3.out
                  have HOWN3 := Lib.hid hown3
                  have HHAS3 := Lib.hid hhas3
                  have HKEY := Lib.hid hkey
                  have HDM := Lib.hid hdm
                  have HTJ := Lib.hid (show x.d.take (j + 1) = x.d.take j ++ [d] by rw [List.take_add_one, hd]; rfl)
                  have hdn : hasN (tgsX l) d = Maps.has D3 (.string d) := by rw [Bool.eq_iff_iff, hasN_iff, hhas3]
                  have HDN := Lib.hid hdn
                  have hb4 := HB3.out.alloc HB3.out.size (.cells #[] 93)
                  have HB4 := Lib.hid hb4
                  have hmlt := HSK3.out.lt
                  have HSK4 := Lib.hid (HSK3.out.keep (w' := wr.alloc (.cells #[] 93)) fun o ho => (Below.heap_alloc _ _ _ hmlt).trans ho)
                  clear hown3 hhas3 hkey hc hd hq hqd hdm hdn hb4
                  cases hmem : Maps.has D3 (.string d) with
                  | false =>
                    have HMEM := Lib.hid hmem
                    have hw : wholeT (tgsX l) = 13 := by
                      unfold wholeT
                      rw [if_pos HNO.out, if_neg]
                      intro hall
                      rw [List.all_eq_true] at hall
                      have h4 := hall x.tg (List.mem_map.2 ⟨x, HXM.out, rfl⟩)
                      rw [List.all_eq_true] at h4
                      have h5 := h4 d HDM.out
                      rw [HDN.out, HMEM.out] at h5
                      cases h5
                    have HW := Lib.hid hw
                    clear hw hmem
                    go_wp2_with (at_lookup; go_loud (refine wpList_lookup_own_unit _ rfl _ _ 67 rfl 9 93 skeyedB Tryd.underlying67 (zero_unitB _) mb kk D3 rfl HOWN3.out _ _ rfl HKEY.out ?_; rw [HMEM.out]))
                    go_ret
                    exact ⟨by rw [HW.out]; rfl, HB4.out⟩
                  | true =>
                    have HMEM := Lib.hid hmem
                    clear hmem
                    go_wp2_with (at_lookup; go_loud (refine wpList_lookup_own_unit _ rfl _ _ 67 rfl 9 93 skeyedB Tryd.underlying67 (zero_unitB _) mb kk D3 rfl HOWN3.out _ _ rfl HKEY.out ?_; rw [HMEM.out]))
                    go_roundw
                    case rel =>
                      refine ⟨j + 1, by omega, by go_num, ?_, HSK4.out, HB4.out⟩
                      intro e he
                      rw [HTJ.out] at he
                      rcases List.mem_append.1 he with he | he
                      · exact HDL.out e he
                      · obtain rfl : e = d := by simpa using he
                        rw [HDN.out, HMEM.out]
                    case measure => simp [intOf]; omega
                · obtain rfl : j = nd := by omega
                  have HNEW : Hid (∀ y ∈ (tgsX l).take (i + 1), y.d.all (fun d => hasN (tgsX l) d) = true) := by
                    intro y hy
                    rcases HTK.out y hy with h | rfl
                    · exact HAL.out y h
                    · rw [List.all_eq_true]
                      intro d hd
                      have e : x.d.take j = x.d := List.take_of_length_le (by rw [HNDD.out]; exact Nat.le_refl _)
                      exact HDL.out d (by rw [e]; exact hd)
                  go_wp2_with fail
                  go_roundw
                  case rel => exact ⟨i + 1, by omega, by go_num, HNEW.out, HSK3.out, HB3.out⟩
                  case measure => simp [intOf]; omega
          · obtain rfl : i = k := by omega
            have hw : wholeT (tgsX l) = 0 := by
              unfold wholeT
              rw [if_pos HNO.out, if_pos]
              rw [List.all_eq_true]
              intro y hy
              exact HAL.out y (by rw [List.take_of_length_le (by rw [tgsX_length, HN.out]; exact Nat.le_refl _)]; exact hy)
            have HW := Lib.hid hw
            clear hw
            go_wp2_with fail
            go_ret
            exact ⟨by rw [HW.out]; rfl, HB2.out⟩
end Go.Proofs.YtckpojkbcbogbaaDoor
