/-
  Plain facts on clean paths: what is a path is clean; pieces of what is joined.
-/
import Derived.Test.YtephppgboaconaaDoorBase
namespace Go.Proofs.YtephppgboaconaaDoor
open Go

theorem splitL_cons_hit (c b : UInt8) (r : Bs) (h : (b == c) = true) : splitL c (b :: r) = [] :: splitL c r := by
  simp only [splitL, h, if_true]
theorem splitL_cons_miss (c b : UInt8) (r p : Bs) (ps : List Bs) (h : (b == c) = false) (e : splitL c r = p :: ps) :
    splitL c (b :: r) = (b :: p) :: ps := by
  simp only [splitL, h, Bool.false_eq_true, if_false, e]
theorem splitL_append (c : UInt8) : ∀ (a b : Bs), splitL c (a ++ c :: b) = splitL c a ++ splitL c b
  | [], b => by
    rw [List.nil_append, splitL_cons_hit c c b (by simp)]; rfl
  | x :: r, b => by
    have ih := splitL_append c r b
    rw [List.cons_append]
    by_cases hx : (x == c) = true
    · rw [splitL_cons_hit c x _ hx, splitL_cons_hit c x _ hx, ih]; rfl
    · have hx' : (x == c) = false := by simpa using hx
      cases e : splitL c r with
      | nil => exact absurd e (splitL_ne c r)
      | cons p ps =>
        rw [splitL_cons_miss c x r p ps hx' e, splitL_cons_miss c x (r ++ c :: b) p (ps ++ splitL c b) hx' (by rw [ih, e]; rfl)]
        rfl
theorem joinL_cons (p : Bs) (q : List Bs) (hq : q ≠ []) : joinL (p :: q) = p ++ 47 :: joinL q := by
  unfold joinL
  cases q with
  | nil => exact absurd rfl hq
  | cons a r =>
    rw [Lib.join_cons, Lib.join_cons]
    rw [show Lib.joinTail [47] (a :: r) = (47 :: a) ++ Lib.joinTail [47] r from rfl]
    simp
theorem join_split : ∀ s : Bs, joinL (splitL 47 s) = s
  | [] => by simp [splitL, joinL, Lib.join_one]
  | b :: r => by
    have ih := join_split r
    unfold splitL
    by_cases hb : (b == 47) = true
    · simp only [hb, if_true]
      rw [joinL_cons _ _ (splitL_ne 47 r), ih]
      have : b = 47 := by simpa using hb
      rw [this]; rfl
    · have hb' : (b == 47) = false := by simpa using hb
      simp only [hb', Bool.false_eq_true, if_false]
      cases e : splitL 47 r with
      | nil => exact absurd e (splitL_ne 47 r)
      | cons p ps =>
        rw [e] at ih
        simp only
        cases ps with
        | nil => unfold joinL at ih ⊢; rw [Lib.join_one] at ih ⊢; rw [ih]
        | cons q qs => rw [joinL_cons _ _ (by simp)] at ih ⊢; rw [List.cons_append, ih]

/-- A name is none of the three parts that are left out or take away. -/
theorem name_step (ns : List Bs) (p : Bs) (h : nameB p = true) : stepN ns p = some (ns ++ [p]) := by
  unfold nameB speltB at h
  simp only [Bool.and_eq_true, Bool.not_eq_true'] at h
  obtain ⟨⟨⟨⟨h1, h2⟩, h3⟩, _⟩, _⟩ := h
  unfold stepN
  have e1 : (p == []) = false := by rw [← h1]; cases p <;> rfl
  rw [h3, e1, h2]; rfl
theorem name_ne (p : Bs) (h : nameB p = true) : p ≠ [] := by
  rintro rfl; exact absurd h (by decide)
theorem sweep_names (ps : List Bs) (h : ∀ p ∈ ps, nameB p = true) : ∀ ns, ps.foldl (fun o p => o.bind (stepN · p)) (some ns) = some (ns ++ ps) := by
  induction ps with
  | nil => intro ns; simp
  | cons p r ih =>
    intro ns
    rw [List.foldl_cons]
    have : ((some ns).bind (stepN · p)) = some (ns ++ [p]) := name_step ns p (h p (by simp))
    rw [this, ih (fun q hq => h q (by simp [hq])) (ns ++ [p])]
    simp
theorem right_names (s : Bs) (h : rightB s = true) : s.length ≤ 100 ∧ ∀ p ∈ splitL 47 s, nameB p = true := by
  unfold rightB partsB at h
  rw [Bool.and_eq_true, decide_eq_true_eq, List.all_eq_true] at h
  exact h
theorem sweep_right (s : Bs) (h : rightB s = true) : sweepN (splitL 47 s) = some (splitL 47 s) := by
  have := sweep_names _ (right_names s h).2 []
  unfold sweepN
  rw [this]; rfl
theorem clean_right (s : Bs) (h : rightB s = true) : cleanB s = some s := by
  unfold cleanB
  rw [sweep_right s h]
  simp only
  rw [join_split, h]; rfl
theorem clean_is_right (s t : Bs) (h : cleanB s = some t) : rightB t = true := by
  unfold cleanB at h
  split at h
  · cases h
  · split at h
    · rename_i hr; cases h; exact hr
    · cases h
/-- './' ahead of a path, and '//x/..' behind it, make no difference. -/
theorem clean_round (t : Bs) (h : rightB t = true) : cleanB (46 :: 47 :: t ++ [47, 47, 120, 47, 46, 46]) = some t := by
  have e : splitL 47 (46 :: 47 :: t ++ [47, 47, 120, 47, 46, 46]) = [46] :: (splitL 47 t ++ [[], [120], [46, 46]]) := by
    have h1 := splitL_append 47 [46] (t ++ 47 :: [47, 120, 47, 46, 46])
    have h2 := splitL_append 47 t [47, 120, 47, 46, 46]
    have e1 : splitL 47 [46] = [[46]] := by decide
    have e2 : splitL 47 [47, 120, 47, 46, 46] = [[], [120], [46, 46]] := by decide
    rw [e1, h2, e2] at h1
    simpa using h1
  have hs : sweepN (splitL 47 (46 :: 47 :: t ++ [47, 47, 120, 47, 46, 46])) = some (splitL 47 t) := by
    rw [e]
    unfold sweepN
    rw [List.foldl_cons]
    have h0 : ((some ([] : List Bs)).bind (stepN · [46])) = some [] := rfl
    rw [h0, List.foldl_append, sweep_names _ (right_names t h).2 [], List.nil_append]
    have e3 : ∀ ns : List Bs, stepN ns [] = some ns := fun ns => rfl
    have e4 : ∀ ns : List Bs, stepN ns [120] = some (ns ++ [[120]]) := fun ns => rfl
    have e5 : ∀ ns : List Bs, stepN (ns ++ [[120]]) [46, 46] = some ns := fun ns => by simp [stepN]
    simp only [List.foldl_cons, List.foldl_nil, Option.bind_some, e3, e4, e5]
  unfold cleanB
  rw [hs]
  simp only
  rw [join_split, h]; rfl

/-- Ahead of the last slash, and behind it. -/
theorem dir_base (s : ByteArray) : ((∀ c ∈ s.data.toList, c ≠ 47) ∧ (dirA s).data.toList = [] ∧ (baseA s).data.toList = s.data.toList) ∨
    (s.data.toList = (dirA s).data.toList ++ 47 :: (baseA s).data.toList ∧ ∀ c ∈ (baseA s).data.toList, c ≠ 47) := by
  have hb : ∀ j : Nat, j < s.size → (((s.data[j]!).toNat : Int) = 47 ↔ s.data.toList[j]? = some 47) := fun j hj => by
    have hj' : j < s.data.size := hj
    rw [getElem!_pos s.data j hj', Array.getElem?_toList, Array.getElem?_eq_getElem hj']
    simp only [Option.some.injEq, ← UInt8.toNat_inj]
    exact ⟨fun h => by have : (47 : UInt8).toNat = 47 := rfl; omega, fun h => by rw [h]; rfl⟩
  rcases Lib.lastIndexByte_spec s 47 with ⟨hk, hn⟩ | ⟨i, hi, hk, hc, hn⟩
  · refine .inl ⟨fun c hc e => ?_, ?_, ?_⟩
    · obtain ⟨j, hj⟩ := List.mem_iff_getElem?.1 hc
      have hl := (List.getElem?_eq_some_iff.1 hj).1
      rw [Array.length_toList] at hl
      exact hn j hl ((hb j hl).2 (by rw [hj, e]))
    · unfold dirA; rw [hk]; rw [extract_mkB, mkB_data]; rfl
    · unfold baseA; rw [hk]; simp
  · have h1 : baseA s = s.extract (i + 1) s.size := by unfold baseA; rw [hk]; rfl
    have h2 : dirA s = s.extract 0 i := by unfold dirA; rw [hk, Int.max_eq_left (by omega)]; rfl
    have hi' := (hb i hi).1 hc
    refine .inr ⟨?_, ?_⟩
    · rw [h1, h2, Lib.extract_to_end, extract_mkB, mkB_data, ← drop_some hi', List.take_append_drop]
    · rw [h1, Lib.extract_to_end]
      intro c hc2 e
      obtain ⟨j, hj⟩ := List.mem_iff_getElem?.1 hc2
      rw [List.getElem?_drop] at hj
      have hl := (List.getElem?_eq_some_iff.1 hj).1
      rw [Array.length_toList] at hl
      exact hn (i + 1 + j) (by omega) hl ((hb _ hl).2 (by rw [hj, e]))

theorem right_ne (s : Bs) (h : rightB s = true) : s ≠ [] := by rintro rfl; exact absurd h (by decide)
theorem right_dir (s : ByteArray) (h : rightB s.data.toList = true) : join2 (dirA s).data.toList (baseA s).data.toList = s.data.toList ∧ under2 s.data.toList (dirA s).data.toList = true ∧
    ((dirA s).data.toList ≠ [] → rightB (dirA s).data.toList = true ∧ s.data.toList = (dirA s).data.toList ++ 47 :: (baseA s).data.toList) := by
  rcases dir_base s with ⟨_, hd, hb⟩ | ⟨he, _⟩
  · rw [hd, hb]
    exact ⟨nil_join2 _, by unfold under2; rfl, fun h => absurd rfl h⟩
  · obtain ⟨hl, hn⟩ := right_names _ h
    have hsp := splitL_append 47 (dirA s).data.toList (baseA s).data.toList
    rw [← he] at hsp
    have hd : (dirA s).data.toList ≠ [] := fun e => by
      rw [e] at hsp
      exact name_ne [] (hn [] (by rw [hsp]; simp [splitL])) rfl
    have hb : (baseA s).data.toList ≠ [] := fun e => by
      rw [e] at hsp
      exact name_ne [] (hn [] (by rw [hsp]; simp [splitL])) rfl
    have hlen : (dirA s).data.toList.length ≤ 100 := by
      have := congrArg List.length he
      simp at this hl ⊢; omega
    refine ⟨?_, ?_, fun _ => ⟨?_, he⟩⟩
    · unfold join2; rw [if_neg hd, if_neg hb]; exact he.symm
    · have := join2_under (dirA s).data.toList (baseA s).data.toList hb hd
      unfold join2 at this
      rw [if_neg hd, if_neg hb, ← he] at this
      exact this
    · unfold rightB partsB
      rw [Bool.and_eq_true, decide_eq_true_eq, List.all_eq_true]
      exact ⟨hlen, fun p hp => hn p (by rw [hsp]; simp [hp])⟩
theorem under_self (s : Bs) (h : s ≠ []) : under2 s s = false := by
  unfold under2
  have h1 : s.isEmpty = false := by cases s <;> first | exact absurd rfl h | rfl
  rw [h1, Bool.false_or]
  cases e : (s ++ [47]).isPrefixOf s with
  | false => rfl
  | true =>
    have := (List.isPrefixOf_iff_prefix.1 e).length_le
    simp only [List.length_append, List.length_cons, List.length_nil] at this
    omega
end Go.Proofs.YtephppgboaconaaDoor
