/-
  Words between blanks, read rune by rune: what a decoder steps over. No program is named here.
-/
import Derived.Test.YtckpojkbcbogbaaDoorOwPlain
import Derived.Test.YtckpojkbcbogbaaDoorRefGlob
import Derived.Lib.DecodeN
namespace Go.Proofs.YtckpojkbcbogbaaDoor
open Go

/-- The pieces between blanks that have a byte. -/
def fieldsL (l : Bs) : List Bs := (splitL 32 l).filter (fun p => !p.isEmpty)
theorem fieldsL_nil : fieldsL [] = [] := rfl
theorem fieldsL_blank (r : Bs) : fieldsL (32 :: r) = fieldsL r := by
  unfold fieldsL
  rw [splitL]; simp
theorem fieldsL_word (l : Bs) (m : Nat) (hm : 0 < m) (hc : Clear 32 l 0 m) (h : l[m]? = some 32) : fieldsL l = l.take m :: fieldsL (l.drop (m + 1)) := by
  unfold fieldsL
  rw [splitL_clear 32 l m hc h, List.filter_cons, if_pos]
  have hl := (List.getElem?_eq_some_iff.1 h).1
  cases e : l.take m with
  | nil => have := congrArg List.length e; rw [List.length_take] at this; simp only [List.length_nil] at this; omega
  | cons _ _ => rfl
theorem fieldsL_last (l : Bs) (m : Nat) (hm : 0 < l.length) (hc : Clear 32 l 0 m) (h : l.length ≤ m) : fieldsL l = [l] := by
  unfold fieldsL
  rw [splitL_all 32 l m hc h, List.filter_cons, if_pos]
  · rfl
  · cases l with
    | nil => simp at hm
    | cons _ _ => rfl
theorem wordsL_fields (l : Bs) : wordsL l = fieldsL (cutR l) := rfl

set_option maxRecDepth 100000 in
set_option maxHeartbeats 2000000 in
/-- A rune that is no blank has no blank among its bytes. -/
theorem dec_blank (n b0 b1 b2 b3 : Nat) (hn : 1 ≤ n) : (b0 = 32 ∧ Lib.decodeN n b0 b1 b2 b3 = (32, 1)) ∨
    (b0 ≠ 32 ∧ (Lib.decodeN n b0 b1 b2 b3).1 ≠ 32 ∧ 1 ≤ (Lib.decodeN n b0 b1 b2 b3).2 ∧ (Lib.decodeN n b0 b1 b2 b3).2 ≤ n ∧ (Lib.decodeN n b0 b1 b2 b3).2 ≤ 4 ∧
      (2 ≤ (Lib.decodeN n b0 b1 b2 b3).2 → b1 ≠ 32) ∧ (3 ≤ (Lib.decodeN n b0 b1 b2 b3).2 → b2 ≠ 32) ∧ (4 ≤ (Lib.decodeN n b0 b1 b2 b3).2 → b3 ≠ 32) ∧ (Lib.decodeN n b0 b1 b2 b3).1 ≤ 2097151) := by
  unfold Lib.decodeN
  by_cases h : b0 = 32
  · left; subst h; exact ⟨rfl, rfl⟩
  · right
    refine ⟨h, ?_⟩
    repeat' split
    all_goals (simp only; omega)

theorem getB (s : ByteArray) (i : Nat) : (s.get! i) = s.data.toList.getD i 0 := by
  show s.data[i]! = _
  rw [List.getD_eq_getElem?_getD, Array.getElem?_toList, getElem!_def]
  cases s.data[i]? <;> rfl
/-- What the decoder does at a place: it steps over a blank, or over bytes of which none is one. -/
theorem dec_step (s : ByteArray) (i : Nat) (hi : i < s.size) : ∃ R K : Nat, Utf8.decode (s.extract i s.size) 0 = (R, K) ∧ 1 ≤ K ∧ i + K ≤ s.size ∧ R ≤ 2097151 ∧
    ((R = 32 ∧ K = 1 ∧ s.data.toList[i]? = some 32) ∨ (R ≠ 32 ∧ Clear 32 s.data.toList i (i + K))) := by
  have hz : (s.extract i s.size).size = s.size - i := by rw [ByteArray.size_extract]; omega
  have hl : s.data.toList.length = s.size := Array.length_toList
  have hg : ∀ j, j < s.size - i → (s.extract i s.size).get! j = s.data.toList[i + j]! := fun j hj => by
    rw [getB, Lib.extract_data, List.getD_eq_getElem?_getD, List.getElem?_take, if_pos (by omega), List.getElem?_drop, getElem!_def]
    cases e : s.data.toList[i + j]? with
    | none => rw [List.getElem?_eq_none_iff] at e; omega
    | some c => rfl
  have hat : ∀ j, j < s.size - i → s.data.toList[i + j]? = some ((s.extract i s.size).get! j) := fun j hj => by
    rw [hg j hj, List.getElem?_eq_getElem (by omega), getElem!_def, List.getElem?_eq_getElem (by omega)]
  have h := dec_blank (s.size - i) ((s.extract i s.size).get! 0).toNat ((s.extract i s.size).get! 1).toNat ((s.extract i s.size).get! 2).toNat ((s.extract i s.size).get! 3).toNat (by omega)
  have hd := Lib.decode_at (s.extract i s.size) 0
  rw [hz, Nat.sub_zero, Nat.zero_add, Nat.zero_add, Nat.zero_add] at hd
  rw [← hd] at h
  clear hd
  obtain ⟨⟨R, K⟩, hRK⟩ : ∃ x, Utf8.decode (s.extract i s.size) 0 = x := ⟨_, rfl⟩
  rw [hRK] at h ⊢
  clear hRK
  have hne : ∀ j, j < s.size - i → ((s.extract i s.size).get! j).toNat ≠ 32 → s.data.toList[i + j]? ≠ some 32 := fun j hj h1 h2 => by
    rw [hat j hj] at h2
    simp only [Option.some.injEq] at h2
    rw [h2] at h1; exact h1 rfl
  refine ⟨R, K, rfl, ?_⟩
  rcases h with ⟨h0, he⟩ | ⟨h0, h1, h2, h3, h4, c1, c2, c3, h5⟩
  · simp only [Prod.mk.injEq] at he
    obtain ⟨rfl, rfl⟩ := he
    refine ⟨by decide, by show i + 1 ≤ s.size; omega, by decide, .inl ⟨rfl, rfl, ?_⟩⟩
    have := hat 0 (by omega)
    rw [Nat.add_zero] at this
    rw [this]
    congr 1
    apply UInt8.toNat_inj.1
    rw [h0]; rfl
  · dsimp only at h1 h2 h3 h4 c1 c2 c3 h5
    refine ⟨h2, by omega, h5, .inr ⟨h1, fun j hj1 hj2 => ?_⟩⟩
    obtain ⟨k, rfl⟩ : ∃ k, j = i + k := ⟨j - i, by omega⟩
    refine hne k (by omega) ?_
    have hk : k < 4 := by omega
    match k, hk with
    | 0, _ => exact h0
    | 1, _ => exact c1 (by omega)
    | 2, _ => exact c2 (by omega)
    | 3, _ => exact c3 (by omega)

/-- From a place on: the words that are left. -/
theorem fields_skip (l : Bs) (i : Nat) (h : l[i]? = some 32) : fieldsL (l.drop i) = fieldsL (l.drop (i + 1)) := by
  have hl := (List.getElem?_eq_some_iff.1 h).1
  have e : l.drop i = 32 :: l.drop (i + 1) := by
    rw [← List.getElem_cons_drop hl, (List.getElem?_eq_some_iff.1 h).2]
  rw [e, fieldsL_blank]
theorem fields_take (l : Bs) (a i : Nat) (ha : a < i) (hc : Clear 32 l a i) (h : l[i]? = some 32) : fieldsL (l.drop a) = (l.drop a).take (i - a) :: fieldsL (l.drop (i + 1)) := by
  have := fieldsL_word (l.drop a) (i - a) (by omega) (clear_drop 32 l a i hc) (by rw [List.getElem?_drop, show a + (i - a) = i from by omega]; exact h)
  rw [this, List.drop_drop, show a + (i - a + 1) = i + 1 from by omega]
theorem fields_end (l : Bs) (a i : Nat) (ha : a < l.length) (hi : l.length ≤ i) (hc : Clear 32 l a i) : fieldsL (l.drop a) = [l.drop a] :=
  fieldsL_last (l.drop a) (i - a) (by rw [List.length_drop]; omega) (clear_drop 32 l a i hc) (by rw [List.length_drop]; omega)
theorem clear_more (c : UInt8) (l : Bs) (a i k : Nat) (h : Clear c l a i) (h2 : Clear c l i k) : Clear c l a k := fun j h1 hj => by
  by_cases e : j < i
  · exact h j h1 e
  · exact h2 j (by omega) hj
theorem fieldsL_le (l : Bs) : (fieldsL l).length ≤ l.length + 1 := by
  have := splitL_length 32 l
  exact Nat.le_trans (List.length_filter_le _ _) this
end Go.Proofs.YtckpojkbcbogbaaDoor
