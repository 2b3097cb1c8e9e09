/-
  The contract of owners.wordsOf: the words of a line without its remark.
-/
import Derived.Test.YtkihgbggndikpaaGreatDoorOwFields
import Derived.Test.YtkihgbggndikpaaGreatDoorOwMem
import Derived.Test.YtkihgbggndikpaaGreatDoorCaught
import Derived.Lib.IndexMore
import Derived.Lib.IndexBytes
namespace Go.Proofs.YtkihgbggndikpaaGreatDoor
open Go Go.RowKit Go.Shelf Go.Proofs
attribute [local go_sem] Oper.semAt_some

theorem cutR_take : ∀ l : Bs, cutR l = if 0 ≤ Lib.indexByte l 35 then l.take (Lib.indexByte l 35).toNat else l
  | [] => by simp [cutR, Lib.indexByte]
  | b :: r => by
    have ih := cutR_take r
    have hge := Lib.indexByte_ge r 35
    unfold Lib.indexByte
    by_cases hb : (b == 35) = true
    · have hc : cutR (b :: r) = [] := by
        unfold cutR; rw [List.takeWhile_cons, if_neg (by rw [beq_iff_eq] at hb; simp [hb])]
      rw [hc, if_pos hb]; rfl
    · have hc : cutR (b :: r) = b :: cutR r := by
        unfold cutR
        rw [List.takeWhile_cons, if_pos (by simpa using hb)]
      rw [hc, if_neg hb, ih]
      by_cases h : Lib.indexByte r 35 = -1
      · rw [h]; simp
      · rw [if_neg (show ¬ (Lib.indexByte r 35 == -1) = true by simpa using h), if_pos (by omega), if_pos (by omega), show (Lib.indexByte r 35 + 1).toNat = (Lib.indexByte r 35).toNat + 1 from by omega, List.take_succ_cons]
theorem cut_remark (l : Bs) : (Lib.cut l [35]).1 = cutR l := by
  unfold Lib.cut
  rw [Lib.index_one, cutR_take]
  split <;> rfl
theorem cutR_le (l : Bs) : (cutR l).length ≤ l.length := by
  unfold cutR; exact (List.takeWhile_prefix _).length_le

/-- What wordsOf answers: a row of its own. -/
def WordsPost (w : World) (l : List Bs) (e : Ending) (w' : World) : Prop := ∃ A c, e = .returned (.slice A l.length c) ∧ StrsT w.heap.size w' A l ∧ l.length ≤ c ∧ c ≤ maxLen ∧ Below w.heap.size w w'
theorem strsT_own {b n : Nat} {w : World} {v : Value} {l : List Bs} (h : w.ownsRow b 9 1 v n (strVs l)) (hn : n = l.length) : ∃ A c, v = .slice A l.length c ∧ StrsT b w A l ∧ l.length ≤ c ∧ c ≤ maxLen := by
  subst hn
  rcases h.2 with ⟨rfl, h0⟩ | ⟨g, cap, cur, rfl, hbg, hgb, hc, hcm, _⟩
  · exact ⟨none, 0, by rw [h0], fun h => by omega, by omega, Nat.zero_le _⟩
  · refine ⟨_, _, rfl, fun h0 => ⟨g, 0, cur, rfl, hbg, hgb, fun i p hp => ?_⟩, hc, hcm⟩
    obtain ⟨g', cap', e, hr, _, _⟩ := names_row h (by omega)
    simp only [Value.slice.injEq, Option.some.injEq, Addr.mk.injEq] at e
    obtain ⟨⟨rfl, _⟩, _⟩ := e
    have := hr i p hp
    rw [cell_of_row w g i _ _ _ hgb] at this
    rw [Nat.zero_add]; exact this

set_option maxRecDepth 100000 in
set_option maxHeartbeats 4000000 in
theorem wordsOf_any (s : ByteArray) (w : World) (hs : s.size ≤ 100000) (hm : MaxOk w) (hT : TabsOk w) :
    Calls Tryz.prog 40 #[.string s] w (WordsPost w (wordsL s.data.toList)) := by
  obtain ⟨i0, hi, hz0, hz1, hz2⟩ := info_parts string_info
  obtain ⟨_, _, m, hm⟩ := hm
  have hl := Array.length_toList (xs := s.data)
  have hcl := cutR_le s.data.toList
  have hcut := cut_remark s.data.toList
  obtain ⟨T, hTd⟩ : ∃ T, mkB (cutR s.data.toList) = T := ⟨_, rfl⟩
  have hTl : T.data.toList = cutR s.data.toList := by rw [← hTd, mkB_data]
  have hTs : T.size ≤ 100000 := by rw [← hTd, mkB_size]; have : s.data.toList.length = s.size := hl; omega
  have hwl : wordsL s.data.toList = fieldsL T.data.toList := by rw [hTl]; rfl
  rw [hwl]
  have hcT : (⟨(Lib.cut s.data.toList (ByteArray.mk #[35]).data.toList).1.toArray⟩ : ByteArray) = T := by
    show (⟨(Lib.cut s.data.toList [35]).1.toArray⟩ : ByteArray) = T
    rw [hcut]; exact hTd
  have HC := Lib.hid hcT
  have HTl := Lib.hid hTl
  clear hcT hTd hTl hwl hcut hcl hl
  refine (callsIn_wide (n := 3)).1 ?_
  generalize 3 = n
  refine callsIn_of_wp_marks Tryz.func40 rfl trivial ?_ rfl
  simp only [Tryz.ntmps40, List.size_toArray, List.length_cons, List.length_nil, Nat.reduceAdd, Nat.reduceSub, Array.replicate_succ, Array.replicate_zero, List.push_toArray, List.append_toArray, List.nil_append, List.cons_append]
  gi_wp2_with fail
  refine wide_call (Tryz.strings_Cut s ⟨#[35]⟩ m w (by omega) hm) ?_
  rintro e w' ⟨rfl, q, rfl⟩
  rw [HC.out]
  obtain ⟨x2, hx2⟩ : ∃ x, (Lib.cut s.data.toList (ByteArray.mk #[35]).data.toList).2.1.toArray = x := ⟨_, rfl⟩
  obtain ⟨x3, hx3⟩ : ∃ x, (Lib.cut s.data.toList (ByteArray.mk #[35]).data.toList).2.2 = x := ⟨_, rfl⟩
  rw [hx2, hx3]
  clear hx2 hx3
  gi_wp2_with fail
  refine wide_call (fieldsSeq_any T _) ?_
  rintro e w' ⟨rfl, rfl⟩
  gi_wp2_with fail
  obtain ⟨W0, hW0⟩ : ∃ W0, (((w.drewN q).alloc (.cells #[.slice none 0 0] 39)).alloc (.cells #[.string T] 9)).alloc (.cells #[.func (.func 80) #[] #[]] 104) = W0 := ⟨_, rfl⟩
  have hs0 : W0.heap.size = w.heap.size + 3 := by rw [← hW0]; simp
  have x0 : Boxed W0 w.heap.size 39 (.slice none 0 0) := by rw [← hW0]; exact ((Boxed.new (w.drewN q) _ _).alloc _).alloc _
  have x1 : Boxed W0 (w.heap.size + 1) 9 (.string T) := by
    rw [← hW0]; have := Boxed.new ((w.drewN q).alloc (.cells #[.slice none 0 0] 39)) 9 (.string T); rw [World.size_alloc] at this; exact this.alloc _
  have x2' : Boxed W0 (w.heap.size + 2) 104 (.func (.func 80) #[] #[]) := by
    rw [← hW0]; have := Boxed.new (((w.drewN q).alloc (.cells #[.slice none 0 0] 39)).alloc (.cells #[.string T] 9)) 104 (.func (.func 80) #[] #[]); simp only [World.size_alloc] at this; exact this
  have hB0 : Below w.heap.size w W0 := by
    rw [← hW0]; exact (((show Below w.heap.size w (w.drewN q) from ⟨rfl, rfl, rfl, Nat.le_refl _, fun _ _ => rfl⟩).alloc (Nat.le_refl _) _).alloc (by simp) _).alloc (by simp; omega) _
  have hT0 : TabsOk W0 := hT.below (Nat.le_refl _) hB0
  rw [hW0]
  clear hW0
  have hfl := fieldsL_le T.data.toList
  have hTl : T.data.toList.length = T.size := Array.length_toList
  have hfb : (fieldsB T).length = (fieldsL T.data.toList).length := by unfold fieldsB; simp
  refine wpIn_rangeList rfl (fun h => absurd h (by decide)) (gf := 105) (lb := #[.pointer (some ⟨w.heap.size + 1, 0, none⟩), .pointer (some ⟨w.heap.size + 2, 0, none⟩)]) rfl trivial (enters_of Tryz.func105 (by kernel_rfl) rfl)
    (fields_list _ (w.heap.size + 1) (w.heap.size + 2) T (by omega) W0 x1 x2' hT0) KeepsB.trans (keepsB_b (by
      rintro k (rfl | rfl | h)
      · omega
      · omega
      · have := hT.lt k h; omega)) (by rintro r hr; exact absurd hr id) (Below.refl _ _) (fun _ => rfl)
    (fun k W => Names (w.heap.size + 3) w.heap.size ((fieldsL T.data.toList).take k) W ∧ Below w.heap.size w W)
    (fun _ _ _ => False)
    (OwnTo.and (fun _ _ _ _ hs hg hr => names_kept (by omega) (fun h => h) (by rintro r hr; exact absurd hr id) hs hg hr) (OwnTo.below (Nat.le_refl _) (by omega) (by rintro r hr; exact absurd hr id)))
    (fun _ _ _ _ _ h _ _ => h)
    ⟨⟨_, x0, World.ownsRow_nil _ _ _ _⟩, hB0⟩
    (fun x a' _ => a' = { tmps := #[.string s, undef, .slice none 0 0, .string T, .string ⟨x2⟩, .bool x3, .pointer (some ⟨w.heap.size, 0, none⟩), .string x, .tuple #[.string T, .string ⟨x2⟩, .bool x3], .string s, .tuple #[.string T, .string ⟨x2⟩, .bool x3], .string T, .string ⟨x2⟩, .bool x3, .string T, .func (.func 105) #[] #[.pointer (some ⟨w.heap.size + 1, 0, none⟩), .pointer (some ⟨w.heap.size + 2, 0, none⟩)], .string x, undef, undef, undef, undef, undef], defers := [] }) (fun _ _ _ _ _ _ hs _ _ => hs) ?assign ?body ?done ?stop
  case assign =>
    intro l k x W K hi hK
    gi_wp2
    exact hK _ _ (KeepsFrom.refl _ _) (KeepsB.refl _ _) hi rfl
  case body =>
    rintro l k x a' W hl ⟨rl, hrl⟩ ⟨⟨v, hv, hrow⟩, hB⟩ rfl hx
    have hWs : w.heap.size + 3 ≤ W.heap.size := by have := (Array.getElem?_eq_some_iff.1 hrl).1; omega
    clear hrl
    have c0 := hv.cell
    have f0 := hv.frozen
    have hkl : k < (fieldsL T.data.toList).length := by
      have := (List.getElem?_eq_some_iff.1 hx).1; omega
    have hxe : (fieldsL T.data.toList)[k]? = some x.data.toList := by
      unfold fieldsB at hx
      rw [List.getElem?_map] at hx
      cases e : (fieldsL T.data.toList)[k]? with
      | none => rw [e] at hx; cases hx
      | some p => rw [e] at hx; cases hx; rw [mkB_data]
    have hns : (fieldsL T.data.toList).take (k + 1) = (fieldsL T.data.toList).take k ++ [x.data.toList] := by rw [List.take_add_one, hxe]; rfl
    have hnl : ((fieldsL T.data.toList).take k).length ≤ 200000 := by rw [List.length_take]; omega
    obtain ⟨ns, hnse⟩ : ∃ ns, (fieldsL T.data.toList).take k = ns := ⟨_, rfl⟩
    rw [hnse] at hns hnl hrow
    have HX := Lib.hid hx; clear hx
    have HXE := Lib.hid hxe; clear hxe
    have HNS := Lib.hid hns; clear hns hnse
    gi_wp2_with (gi_at_builtin; refine wpListIn_append_own _ rfl _ _ 39 rfl (w.heap.size + 3) 9 i0 (.string ⟨#[]⟩) 1 16 Tryz.underlying39 hi hz0 hz1 hz2 rfl (by decide) _ _ _ rfl (hrow.alloc _) ⟨W.heap.size, 0, none⟩ 1 1 [.string x] rfl rfl (cell_one_new _ _ _) (by simp [Value.oneCell']) (by unfold maxLen; omega) (by omega) (by simp; omega) ?_; intro v' w1 hown' hgrow _; obtain ⟨g', cap', rfl⟩ := ownsRow_succ hown'; obtain ⟨hv1, hv2, hr2, hk2, hsame, hb2⟩ := names_push (n₀ := w.heap.size) (by decide) hv hrow hWs (by omega) (by omega) hown' hgrow; have hc1 := hv1.cell; have hf1 := hv1.frozen)
    refine ⟨hk2.from _, ⟨hk2.size, ?_⟩, ⟨_, hv2, ?_⟩, hB.trans hb2⟩
    · rintro j (rfl | rfl | h) _
      · exact hsame _ (by omega) (by omega)
      · exact hsame _ (by omega) (by omega)
      · have := hT.lt j h
        exact hsame _ (by omega) (by omega)
    · have e1 : (ns ++ [x.data.toList]).length = ns.length + 1 := by simp
      have e2 : strVs (ns ++ [x.data.toList]) = strVs ns ++ [.string x] := by simp [strVs, strV, data_mkB]
      rw [HNS.out, e1, e2]; exact hr2
  case done =>
    rintro D W hD ⟨⟨v, hv, hrow⟩, hB⟩ hK
    rw [List.take_of_length_le (by omega)] at hrow
    have c2 := hv.cell
    gi_wp2
    refine ⟨by simp, .inl ⟨_, _, rfl, run_takeDeferred hK, ?_⟩⟩
    obtain ⟨A, c, rfl, h1, h2, h3⟩ := strsT_own hrow rfl
    have hbk := belowK_b (w := w) (Nat.le_refl _) W D _ (.deferred none) (by omega) hK rfl rfl
    refine ⟨_, by simp [results, Tryz.f40, go_sem], A, c, rfl, (h1.lower (by omega)).keep fun g cur _ hg => ?_, h2, h3, hB.trans hbk⟩
    refine World.putObj_heap_other (fun e2 => ?_)
    subst e2
    rw [hK] at hg
    cases hg
  case stop =>
    rintro D c k W hD hk h
    exact h.elim
end Go.Proofs.YtkihgbggndikpaaGreatDoor
