/-
  The contract of build.wordsOf: the words of a line without its remark.
-/
import Derived.Test.YtckpojkbcbogbaaDoorBdFields
import Derived.Test.YtckpojkbcbogbaaDoorBdMem
import Derived.Test.YtckpojkbcbogbaaDoorConsists
import Derived.Test.YtckpojkbcbogbaaDoorShelf
import Derived.Lib.IndexMore
import Derived.Lib.IndexBytes
namespace Go.Proofs.YtckpojkbcbogbaaDoor
open Go Go.RowKit Go.Shelf Go.Proofs
attribute [local go_sem] Oper.semAt_some

theorem cutT_take : ∀ l : Bs, cutR l = if 0 ≤ Lib.indexByte l 35 then l.take (Lib.indexByte l 35).toNat else l
  | [] => by simp [cutR, Lib.indexByte]
  | b :: r => by
    have ih := cutT_take r
    have hge := Lib.indexByte_ge r 35
    unfold Lib.indexByte
    by_cases hb : (b == 35) = true
    · have hc : cutR (b :: r) = [] := by
        unfold cutR; rw [List.takeWhile_cons, if_neg (by rw [beq_iff_eq] at hb; simp [hb])]
      rw [hc, if_pos hb]; rfl
    · have hc : cutR (b :: r) = b :: cutR r := by
        unfold cutR
        rw [List.takeWhile_cons, if_pos (by simpa using hb)]
      rw [hc, if_neg hb, ih]
      by_cases h : Lib.indexByte r 35 = -1
      · rw [h]; simp
      · rw [if_neg (show ¬ (Lib.indexByte r 35 == -1) = true by simpa using h), if_pos (by omega), if_pos (by omega), show (Lib.indexByte r 35 + 1).toNat = (Lib.indexByte r 35).toNat + 1 from by omega, List.take_succ_cons]
theorem cutT_remark (l : Bs) : (Lib.cut l [35]).1 = cutR l := by
  unfold Lib.cut
  rw [Lib.index_one, cutT_take]
  split <;> rfl
theorem cutT_le (l : Bs) : (cutR l).length ≤ l.length := by
  unfold cutR; exact (List.takeWhile_prefix _).length_le
/-- What wordsOf answers: a row of its own. -/
def WordsT (w : World) (l : List Bs) (e : Ending) (w' : World) : Prop := ∃ A c, e = .returned (.slice A l.length c) ∧ StrsAt w' A l ∧ l.length ≤ c ∧ c ≤ maxLen ∧ Below w.heap.size w w'

theorem strsT_ownT {b n : Nat} {w : World} {v : Value} {l : List Bs} (h : w.ownsRow b 9 1 v n (strVs l)) (hn : n = l.length) : ∃ A c, v = .slice A l.length c ∧ StrsT b w A l ∧ l.length ≤ c ∧ c ≤ maxLen := by
  subst hn
  rcases h.2 with ⟨rfl, h0⟩ | ⟨g, cap, cur, rfl, hbg, hgb, hc, hcm, _⟩
  · exact ⟨none, 0, by rw [h0], fun h => by omega, by omega, Nat.zero_le _⟩
  · refine ⟨_, _, rfl, fun h0 => ⟨g, 0, cur, rfl, hbg, hgb, fun i p hp => ?_⟩, hc, hcm⟩
    obtain ⟨g', cap', e, hr, _, _⟩ := names_row h (by omega)
    simp only [Value.slice.injEq, Option.some.injEq, Addr.mk.injEq] at e
    obtain ⟨⟨rfl, _⟩, _⟩ := e
    have := hr i p hp
    rw [cell_of_row w g i _ _ _ hgb] at this
    rw [Nat.zero_add]; exact this

theorem bblank_any (W : World) (x : Nat) : Calls Tryd.prog 89 #[.int .i32 (x : Int)] W fun e w' => e = .returned (.bool (blankR x)) ∧ w' = W := by
  have hb : blankR x = decide ((x : Int) = 32) := by unfold blankR; rw [Bool.eq_iff_iff]; simp; omega
  rw [hb]
  go_enter Tryd.func89, Tryd.ntmps89
  go_wp2_with fail
  all_goals (go_ret; exact ⟨ret_bool (by first | rfl | (rw [Bool.eq_iff_iff]; simp) | simp_all), rfl⟩)
set_option maxRecDepth 100000 in
set_option maxHeartbeats 4000000 in
theorem bwordsOf_any (s : ByteArray) (w : World) (hs : s.size ≤ 100000) (hm : MaxOk w) :
    Calls Tryd.prog 65 #[.string s] w (WordsT w (wordsL s.data.toList)) := by
  obtain ⟨_, _, m, hm⟩ := hm
  have hl := Array.length_toList (xs := s.data)
  have hcl := cutT_le s.data.toList
  have hcut := cutT_remark s.data.toList
  obtain ⟨T, hTd⟩ : ∃ T, mkB (cutR s.data.toList) = T := ⟨_, rfl⟩
  have hTl : T.data.toList = cutR s.data.toList := by rw [← hTd, mkB_data]
  have hTs : T.size ≤ 100000 := by rw [← hTd, mkB_size]; have : s.data.toList.length = s.size := hl; omega
  have hwl : wordsL s.data.toList = fieldsL T.data.toList := by rw [hTl]; rfl
  rw [hwl]
  have hcT : (⟨(Lib.cut s.data.toList (ByteArray.mk #[35]).data.toList).1.toArray⟩ : ByteArray) = T := by
    show (⟨(Lib.cut s.data.toList [35]).1.toArray⟩ : ByteArray) = T
    rw [hcut]; exact hTd
  have HC := Lib.hid hcT
  have HCUT := Lib.hid (Tryd.strings_Cut s ⟨#[35]⟩ m w (by omega) hm)
  have HGF := Lib.hid (goFields_words T)
  have HFF := Lib.hid (fun (W : World) => Tryd.strings_FieldsFunc_runes 89 #[] (enters_of Tryd.func89 (by kernel_rfl) rfl) blankR T W (by omega) (fun W' x _ _ => (bblank_any W' x).mono fun e w' ⟨h1, h2⟩ => ⟨h1, 0, h2⟩))
  clear hcT hTd hTl hwl hcut hcl hl
  go_enter Tryd.func65, Tryd.ntmps65
  go_wp2_with fail
  refine HCUT.out.mono ?_
  rintro e w' ⟨rfl, q, rfl⟩
  rw [HC.out]
  go_wp2_with fail
  refine (HFF.out _).mono ?_
  rintro e w2 ⟨A, rfl, hA, hrow, hb⟩
  have hlen : (Lib.goFieldsP blankR T).length = (fieldsL T.data.toList).length := by rw [← HGF.out, List.length_map]
  have hvs : (Lib.goFieldsP blankR T).map Value.string = strVs (fieldsL T.data.toList) := by
    rw [← HGF.out]
    unfold strVs strV
    rw [List.map_map]
    exact List.map_congr_left fun x _ => by show Value.string x = Value.string (mkB x.data.toList); rw [data_mkB]
  rw [hlen, hvs] at hrow
  rw [hlen]
  go_wp2_with fail
  go_ret
  obtain ⟨A', c', e, hst, hc1, hc2⟩ := strsT_ownT hrow rfl
  simp only [Value.slice.injEq, true_and] at e
  obtain ⟨e1, e2⟩ := e
  refine ⟨A', c', by rw [← e1, ← e2]; rfl, hst.at_, hc1, hc2, ?_⟩
  exact (⟨rfl, rfl, rfl, Nat.le_refl _, fun _ _ => rfl⟩ : Below w.heap.size w (w.drewN q)).trans hb
end Go.Proofs.YtckpojkbcbogbaaDoor
