/-
  Plain facts on what is behind the last slash, ahead of it, and on joining; contracts that name their result.
-/
import Derived.Test.YtckpojkbcbogbaaDoorSmall
import Derived.Test.YtckpojkbcbogbaaDoorCaught
namespace Go.Proofs.YtckpojkbcbogbaaDoor
open Go Go.RowKit Go.Shelf Go.Proofs

def baseL (l : Bs) : Bs := (l.reverse.takeWhile (fun c => c != 47)).reverse
theorem baseL_none (l : Bs) (h : ∀ c ∈ l, c ≠ 47) : baseL l = l := by
  unfold baseL
  have : l.reverse.takeWhile (fun c => c != 47) = l.reverse := by
    have := List.takeWhile_append_of_pos (p := fun c : UInt8 => c != 47) (l₁ := l.reverse) (l₂ := []) (fun a ha => by simpa using h a (List.mem_reverse.1 ha))
    simpa using this
  rw [this, List.reverse_reverse]
theorem baseL_slash (p l : Bs) : baseL (p ++ 47 :: l) = baseL l := by
  unfold baseL
  rw [List.reverse_append, List.reverse_cons, List.append_assoc, List.takeWhile_append]
  split
  · rename_i h
    have : l.reverse.takeWhile (fun c => c != 47) = l.reverse := by
      have h1 := List.takeWhile_prefix (l := l.reverse) (fun c : UInt8 => c != 47)
      exact h1.eq_of_length h
    rw [this]; simp
  · rfl

theorem base_list (s : ByteArray) : (baseA s).data.toList = baseL s.data.toList := by
  have hb : ∀ j : Nat, j < s.size → (((s.data[j]!).toNat : Int) = 47 ↔ s.data.toList[j]? = some 47) := fun j hj => by
    have hj' : j < s.data.size := hj
    rw [getElem!_pos s.data j hj', Array.getElem?_toList, Array.getElem?_eq_getElem hj']
    simp only [Option.some.injEq, ← UInt8.toNat_inj]
    exact ⟨fun h => by have : (47 : UInt8).toNat = 47 := rfl; omega, fun h => by rw [h]; rfl⟩
  rcases Lib.lastIndexByte_spec s 47 with ⟨hk, hn⟩ | ⟨i, hi, hk, hc, hn⟩
  · have h1 : baseA s = s := by unfold baseA; rw [hk]; simp
    rw [h1, baseL_none]
    intro c hc e
    obtain ⟨j, hj⟩ := List.mem_iff_getElem?.1 hc
    have hl := (List.getElem?_eq_some_iff.1 hj).1
    rw [Array.length_toList] at hl
    exact hn j hl ((hb j hl).2 (by rw [hj, e]))
  · have h1 : baseA s = s.extract (i + 1) s.size := by unfold baseA; rw [hk]; rfl
    rw [h1, Lib.extract_to_end]
    have hi' := (hb i hi).1 hc
    have hd := drop_some hi'
    have hsp : s.data.toList = s.data.toList.take i ++ 47 :: s.data.toList.drop (i + 1) := by rw [← hd, List.take_append_drop]
    conv => rhs; rw [hsp]
    rw [baseL_slash, baseL_none]
    intro c hc2 e
    obtain ⟨j, hj⟩ := List.mem_iff_getElem?.1 hc2
    rw [List.getElem?_drop] at hj
    have hl := (List.getElem?_eq_some_iff.1 hj).1
    rw [Array.length_toList] at hl
    exact hn (i + 1 + j) (by omega) hl ((hb _ hl).2 (by rw [hj, e]))

theorem join2_assoc (a b c : Bs) : join2 (join2 a b) c = join2 a (join2 b c) := by
  unfold join2
  by_cases ha : a = [] <;> by_cases hb : b = [] <;> by_cases hc : c = [] <;> simp [ha, hb, hc]
theorem join2_nil (a : Bs) : join2 a [] = a := by unfold join2; by_cases ha : a = [] <;> simp [ha]
theorem nil_join2 (a : Bs) : join2 [] a = a := by unfold join2; simp
theorem join2_len (a b : Bs) : (join2 a b).length ≤ a.length + b.length + 1 := by
  unfold join2; split
  · omega
  · split
    · omega
    · simp; omega
theorem join2_base (a b : Bs) (hb : b ≠ []) : baseL (join2 a b) = baseL b := by
  unfold join2
  by_cases ha : a = []
  · rw [if_pos ha]
  · rw [if_neg ha, if_neg hb, baseL_slash]
theorem isPrefixOf_append (a b : Bs) : a.isPrefixOf (a ++ b) = true := by
  induction a with
  | nil => simp
  | cons x r ih => simp [ih]
theorem join2_under (a b : Bs) (hb : b ≠ []) (ha : a ≠ []) : under2 (join2 a b) a = true := by
  unfold under2 join2
  rw [if_neg ha, if_neg hb, show a ++ 47 :: b = (a ++ [47]) ++ b from by simp, isPrefixOf_append]
  simp

theorem join_to (d s r : ByteArray) (w : World) (hd : d.size ≤ 1000000) (hs : s.size ≤ 1000000) (h : join2 d.data.toList s.data.toList = r.data.toList) :
    Calls Tryd.prog 86 #[.string d, .string s] w fun e w' => e = .returned (.string r) ∧ w' = w := by
  have := join_any d s w hd hs
  rwa [h, data_mkB] at this
theorem base_to (s r : ByteArray) (w : World) (hs : s.size ≤ 1000000) (h : baseL s.data.toList = r.data.toList) :
    Calls Tryd.prog 22 #[.string s] w fun e w' => e = .returned (.string r) ∧ w' = w := by
  have := base_any s w hs
  rwa [show baseA s = r from by rw [← data_mkB (baseA s), base_list, h, data_mkB]] at this
theorem under_to (s d : ByteArray) (r : Bool) (w : World) (hs : s.size ≤ 1000000) (hd : d.size ≤ 1000000) (h : under2 s.data.toList d.data.toList = r) :
    Calls Tryd.prog 69 #[.string s, .string d] w fun e w' => e = .returned (.bool r) ∧ w' = w := by
  have := under_any s d w hs hd
  rwa [h] at this
end Go.Proofs.YtckpojkbcbogbaaDoor
