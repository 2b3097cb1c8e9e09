/-
  The document's own words of a line, its has, its named. · The document's own Add: a text into a row, where it rises. · Plain: a tree whose one file is OWNERS, with a name in each line: whose its files are. · The law OwnersOnly: a file whose lines are names, and its files' owners.
-/
import Derived.Test.YtioiieammmdilaaGreatDoorOwIs
import Derived.Test.YtioiieammmdilaaGreatDoorRefGlob
import Derived.Test.YtioiieammmdilaaGreatDoorOwUps
import Derived.Test.YtioiieammmdilaaGreatDoorOwKnown
import Derived.Test.YtioiieammmdilaaGreatDoorFits
namespace Go.Proofs.YtioiieammmdilaaGreatDoor
open Go Go.RowKit Go.Shelf Go.Proofs
attribute [local go_sem] Oper.semAt_some

theorem split_head (c : UInt8) : ∀ l : Bs, (splitL c l)[0]? = some (l.takeWhile (fun b => b != c))
  | [] => rfl
  | b :: r => by
    have ih := split_head c r
    unfold splitL
    by_cases h : (b == c) = true
    · rw [if_pos h, List.takeWhile_cons, if_neg (by rw [beq_iff_eq] at h; simp [h])]; rfl
    · rw [if_neg h, List.takeWhile_cons, if_pos (by simpa using h)]
      cases e : splitL c r with
      | nil => exact absurd e (splitL_ne c r)
      | cons p ps =>
        rw [e] at ih
        simp only [List.getElem?_cons_zero, Option.some.injEq] at ih
        simp [ih]
def keptW (l : List Bs) : List Bs := l.filter (fun p => !p.isEmpty)
theorem keptW_snoc (l : List Bs) (p : Bs) : keptW (l ++ [p]) = if p.isEmpty then keptW l else keptW l ++ [p] := by
  unfold keptW
  rw [List.filter_append]
  cases p <;> simp
theorem keptW_len (l : List Bs) : (keptW l).length ≤ l.length := List.length_filter_le _ _
theorem strVs_one (P : List Bs) (p : Bs) : strVs (P ++ [p]) = strVs P ++ [.string (mkB p)] := by simp [strVs, strV]

set_option maxRecDepth 100000 in
set_option maxHeartbeats 4000000 in
theorem refwords_any (s : ByteArray) (w : World) (hs : s.size ≤ 1000000) :
    Calls Tryz.prog 41 #[.string s] w (WordsPost w (wordsL s.data.toList)) := by
  obtain ⟨i0, hi, hz0, hz1, hz2⟩ := info_parts string_info
  have hl : s.data.toList.length = s.size := Array.length_toList
  have HW : Hid (wordsL s.data.toList = keptW (splitL 32 (cutR s.data.toList))) := rfl
  have hcl := cutR_le s.data.toList
  obtain ⟨T, hT⟩ : ∃ T, mkB (cutR s.data.toList) = T := ⟨_, rfl⟩
  have hTl : T.data.toList = cutR s.data.toList := by rw [← hT, mkB_data]
  have hTs : T.size ≤ 1000000 := by rw [← hT, mkB_size]; omega
  have h0 : (splitL 35 s.data.toList)[0]? = some (cutR s.data.toList) := split_head 35 _
  have hne := splitL_ne 35 s.data.toList
  obtain ⟨L, hL⟩ : ∃ L, splitL 35 s.data.toList = L := ⟨_, rfl⟩
  have HS := Lib.hid (refsplit_any s 35 w (by omega))
  rw [hL] at h0 HS hne
  have H0 := Lib.hid h0
  have HT := Lib.hid hT
  have HTL := Lib.hid hTl
  have hne0 : L.length ≠ 0 := fun e => hne (List.eq_nil_of_length_eq_zero e)
  clear h0 hne hL hcl hTl hT hl
  go_enter Tryz.func41, Tryz.ntmps41
  go_wp2_with fail
  refine HS.out.mono ?_
  rintro e w1 ⟨v, rfl, hrow, hb1⟩
  obtain ⟨g, cap, rfl, hr, _, _⟩ := names_row hrow hne0
  obtain ⟨n, hn⟩ : ∃ n, L.length = n + 1 := ⟨L.length - 1, by omega⟩
  have c1 : w1.cell? ⟨g, 0, none⟩ = some (.string T) := by rw [← HT.out]; exact hr 0 _ H0.out
  rw [hn]
  have HS2 := Lib.hid (refsplit_any T 32 w1 (by omega))
  rw [HTL.out] at HS2
  have hsm := splitL_length 32 (cutR s.data.toList)
  have hcs : (cutR s.data.toList).length ≤ 1000000 := by rw [← HTL.out, Array.length_toList]; exact hTs
  obtain ⟨M, hM⟩ : ∃ M, splitL 32 (cutR s.data.toList) = M := ⟨_, rfl⟩
  have hne2 := splitL_ne 32 (cutR s.data.toList)
  rw [hM] at HS2 HW hsm hne2
  have hml : M.length ≤ 1000001 := by omega
  have hm0 : M.length ≠ 0 := fun e => hne2 (List.eq_nil_of_length_eq_zero e)
  have HB1 := Lib.hid hb1
  clear hrow hr hb1 hM hsm hcs hne2 HS
  go_wp2_with fail
  refine HS2.out.mono ?_
  rintro e w2 ⟨v2, rfl, hrow2, hb2⟩
  obtain ⟨g2, cap2, rfl, hr2, hg1, hg2⟩ := names_row hrow2 hm0
  have HR2 := Lib.hid hr2
  have HB2 := Lib.hid (HB1.out.trans (hb2.mono HB1.out.size))
  obtain ⟨m, hm⟩ : ∃ m, M.length = m := ⟨_, rfl⟩
  rw [hm]
  rw [hm] at hml
  have HM := Lib.hid hm
  clear hrow2 hr2 hb2 HS2 HB1 hm hm0
  go_wp2_with fail
  go_loopw [4, 5] (fun v i wr => ∃ k : Nat, k ≤ m ∧ i = .int .i64 k ∧ wr.ownsRow w2.heap.size 9 1 v (keptW (M.take k)).length (strVs (keptW (M.take k))) ∧ Below w2.heap.size w2 wr) (fun _ i _ => m - (intOf i).toNat)
  case atStart => exact ⟨0, Nat.zero_le _, rfl, World.ownsRow_nil _ _ _ _, Below.refl _ _⟩
  case round =>
    obtain ⟨k, hk, rfl, hrow, hbr⟩ := hrel
    have hW : w2.heap.size ≤ wr.heap.size := hbr.size
    by_cases h1 : k < m
    · have hkl : k < M.length := by have := HM.out; omega
      obtain ⟨p, hp⟩ : ∃ p, M[k]? = some p := ⟨_, List.getElem?_eq_getElem hkl⟩
      have hc := (HR2.out.below hbr hg2) k p hp
      have hsn : keptW (M.take (k + 1)) = if p.isEmpty then keptW (M.take k) else keptW (M.take k) ++ [p] := by
        rw [List.take_add_one, hp]; exact keptW_snoc _ _
      have HSN := Lib.hid hsn
      have hkk := Nat.le_trans (keptW_len (M.take k)) (List.length_take_le k M)
      clear hsn hp hkl
      by_cases hpe : p = []
      · subst hpe
        have g1 : (!(mkB []).toList.isEmpty) = false := by rw [ByteArray.toList_eq, mkB_data]; rfl
        have g2 : (mkB []).toList.isEmpty = true := by rw [ByteArray.toList_eq, mkB_data]; rfl
        have g3 : (mkB []).toList = [] := by rw [ByteArray.toList_eq, mkB_data]
        go_wp2_with fail
        go_roundw
        case rel => exact ⟨k + 1, by omega, by go_num, by rw [HSN.out]; exact hrow, hbr⟩
        case measure => simp [intOf]; omega
      · have g1 : (!(mkB p).toList.isEmpty) = true := by rw [ByteArray.toList_eq, mkB_data]; cases p with | nil => exact absurd rfl hpe | cons _ _ => rfl
        have g2 : (mkB p).toList.isEmpty = false := by rw [ByteArray.toList_eq, mkB_data]; cases p with | nil => exact absurd rfl hpe | cons _ _ => rfl
        have g4 : p.isEmpty = false := by cases p with | nil => exact absurd rfl hpe | cons _ _ => rfl
        have HP := Lib.hid g4
        clear g4 hpe
        go_wp2_with (at_builtin; go_loud (refine wpList_append_own _ rfl _ _ 39 rfl w2.heap.size 9 i0 (.string ⟨#[]⟩) 1 16 Tryz.underlying39 hi hz0 hz1 hz2 rfl (by decide) _ _ _ rfl (hrow.alloc _) ⟨wr.heap.size, 0, none⟩ 1 1 [.string (mkB p)] rfl rfl (cell_one_new _ _ _) (by simp [Value.oneCell']) (by unfold maxLen; omega) (by omega) (by simp; omega) ?_; intro v' w3 hown' hgrow _))
        go_roundw
        case rel =>
          refine ⟨k + 1, by omega, by go_num, ?_, hbr.trans (((Below.refl _ _).alloc hW _).grown hgrow (by simp; omega) fun j ej => (row_ge hrow ej).1)⟩
          rw [HSN.out, if_neg (by rw [HP.out]; simp), List.length_append, strVs_one]; exact hown'
        case measure => simp [intOf]; omega
    · have h2 : k = M.length := by have := HM.out; omega
      subst h2
      rw [List.take_of_length_le (Nat.le_refl _)] at hrow
      obtain ⟨A, c, hv, hst, hc1, hc2⟩ := strsT_own hrow rfl
      subst hv
      have HST := Lib.hid hst
      clear hst hrow
      go_wp2_with fail
      go_ret
      exact ⟨A, c, by rw [HW.out]; rfl, by rw [HW.out]; exact HST.out.lower HB2.out.size, by rw [HW.out]; exact hc1, hc2, HB2.out.trans (hbr.mono HB2.out.size)⟩

theorem split_many (c : UInt8) : ∀ l : Bs, decide (1 < (splitL c l).length) = l.contains c
  | [] => rfl
  | b :: r => by
    have ih := split_many c r
    have hne := splitL_ne c r
    unfold splitL
    by_cases h : (b == c) = true
    · rw [if_pos h]
      obtain rfl : b = c := by simpa using h
      cases e : splitL b r with
      | nil => exact absurd e hne
      | cons p ps => simp
    · rw [if_neg h]
      cases e : splitL c r with
      | nil => exact absurd e hne
      | cons p ps =>
        rw [e] at ih
        rw [List.contains_cons, ← ih]
        have : (c == b) = false := by rw [beq_eq_false_iff_ne]; intro e2; subst e2; simp at h
        rw [this]; rfl
set_option maxHeartbeats 2000000 in
theorem refhas_any (s : ByteArray) (w : World) (hs : s.size ≤ 1000000) :
    Calls Tryz.prog 42 #[.string s] w (BoolPost (s.data.toList.contains 47) w) := by
  have HM := Lib.hid (split_many 47 s.data.toList)
  obtain ⟨L, hL⟩ : ∃ L, splitL 47 s.data.toList = L := ⟨_, rfl⟩
  have HS := Lib.hid (refsplit_any s 47 w (by omega))
  rw [hL] at HM HS
  clear hL
  go_enter Tryz.func42, Tryz.ntmps42
  go_wp2_with fail
  refine HS.out.mono ?_
  rintro e w1 ⟨v, rfl, hrow, hb1⟩
  obtain ⟨A, c, rfl, _, _⟩ := ownsRow_slice hrow
  have HB := Lib.hid hb1
  clear hrow hb1
  go_wp2_with fail
  go_ret
  exact ⟨ret_bool (by rw [← HM.out, Bool.eq_iff_iff]; simp; omega), HB.out⟩

set_option maxRecDepth 100000 in
set_option maxHeartbeats 4000000 in
theorem refallnamed_any (l : List Bs) (A : Option Addr) (c : Nat) (w : World) (h : WordsAt w A c l) :
    Calls Tryz.prog 43 #[.slice A l.length c] w fun e w' => e = .returned (.bool (l.all namedB && decide (0 < l.length))) ∧ w' = w := by
  have hl := h.len
  have HH := Lib.hid h; clear h
  obtain ⟨n, hn⟩ : ∃ n, l.length = n := ⟨_, rfl⟩
  rw [hn]
  rw [hn] at hl
  have HN := Lib.hid hn
  clear hn
  go_enter Tryz.func43, Tryz.ntmps43
  go_wp2_with fail
  go_loop [3] (fun i => ∃ k : Nat, k ≤ n ∧ i = .int .i64 k ∧ Hid ((l.take k).all namedB = true)) (fun i => n - (intOf i).toNat)
  case atStart => exact ⟨0, Nat.zero_le _, rfl, rfl⟩
  case round =>
    obtain ⟨k, hk, rfl, hall⟩ := hrel
    by_cases hlt : k < n
    · obtain ⟨x, hx⟩ : ∃ x, l[k]? = some x := ⟨_, List.getElem?_eq_getElem (by have := HN.out; omega)⟩
      obtain ⟨g, o, hA, hr⟩ := HH.out.at_ (by have := HN.out; omega)
      subst hA
      have c1 := hr k x hx
      have hcall := refnamed_any (mkB x) w (by rw [mkB_size]; have := HH.out.each x (List.mem_of_getElem? hx); unfold maxLen; omega)
      rw [mkB_data] at hcall
      have hsn : (l.take (k + 1)).all namedB = ((l.take k).all namedB && namedB x) := by rw [List.take_add_one, hx, List.all_append]; simp
      rw [hall.out, Bool.true_and] at hsn
      have HSN := Lib.hid hsn
      have HMX := Lib.hid (List.mem_of_getElem? hx)
      clear hx hr hsn
      cases hq : namedB x with
      | true =>
        rw [hq] at hcall
        have HQ := Lib.hid hq
        have HC := Lib.hid hcall
        clear hq hcall
        go_wp2_with fail
        refine HC.out.mono ?_
        rintro e w' ⟨rfl, hw⟩
        have hw := hw.symm
        subst hw
        go_wp2_with fail
        go_round
        case rel => exact ⟨k + 1, by omega, by go_num, by unfold Hid; rw [HSN.out]; exact HQ.out⟩
        case measure => simp [intOf]; omega
      | false =>
        rw [hq] at hcall
        have hf : l.all namedB = false := by
          rw [Bool.eq_false_iff]; intro ha
          have := List.all_eq_true.1 ha _ HMX.out
          rw [this] at hq; cases hq
        have HF := Lib.hid hf
        have HC := Lib.hid hcall
        clear hq hcall hf
        go_wp2_with fail
        refine HC.out.mono ?_
        rintro e w' ⟨rfl, hw⟩
        have hw := hw.symm
        subst hw
        go_wp2_with fail
        go_ret
        exact ⟨ret_bool (by rw [HF.out]; rfl), rfl⟩
    · obtain rfl : k = n := by omega
      have ha : l.all namedB = true := by
        have := hall.out
        rwa [List.take_of_length_le (by have := HN.out; omega)] at this
      have HA := Lib.hid ha
      clear ha
      go_wp2_with fail
      go_ret
      exact ⟨ret_bool (by rw [HA.out, Bool.true_and]), rfl⟩
end Go.Proofs.YtioiieammmdilaaGreatDoor
namespace Go.Proofs.YtioiieammmdilaaGreatDoor
open Go Go.RowKit Go.Shelf Go.Proofs
attribute [local go_sem] Oper.semAt_some

theorem addS_at (s : Bs) : ∀ (l : List Bs) (k : Nat), (∀ j y, j < k → l[j]? = some y → ltB y s = true) → k ≤ l.length → (∀ y, l[k]? = some y → ltB y s = false) → addS l s = if l[k]? = some s then l else l.take k ++ s :: l.drop k
  | [], k, _, hk, _ => by
    obtain rfl : k = 0 := by simpa using hk
    simp [addS]
  | x :: r, 0, _, _, h2 => by
    have := h2 x rfl
    unfold addS
    rw [if_neg (by rw [this]; simp)]
    by_cases e : x = s
    · subst e; simp
    · rw [if_neg (by simpa using e)]
      simp [e]
  | x :: r, k + 1, h1, hk, h2 => by
    have hx := h1 0 x (by omega) rfl
    have ih := addS_at s r k (fun j y hj hy => h1 (j + 1) y (by omega) (by simpa using hy)) (by simpa using hk) (fun y hy => h2 y (by simpa using hy))
    unfold addS
    rw [if_pos hx, ih]
    simp only [List.getElem?_cons_succ, List.take_succ_cons, List.drop_succ_cons]
    split <;> rfl
theorem addS_len (s : Bs) : ∀ l : List Bs, (addS l s).length ≤ l.length + 1
  | [] => by simp [addS]
  | x :: r => by
    have ih := addS_len s r
    unfold addS
    split
    · simp only [List.length_cons]; omega
    · split
      · simp
      · simp
theorem strVs_append (a b : List Bs) : strVs (a ++ b) = strVs a ++ strVs b := by simp [strVs]
theorem strVs_length (a : List Bs) : (strVs a).length = a.length := by simp [strVs]
theorem run_append_none_s {P : Program} {w : World} (base : Nat) (t ty e : TypeId) (i : TypeInfo) (size c : Nat) (ht : P.underlying t = some (.slice e)) (hi : P.info? e = some i)
    (v : Value) (n : Nat) (xs : List Value) (hown : w.ownsRow base e size v n xs) :
    (Builtin.append_ #[t, t] ty #[v, .slice none 0 c]).run P w = .ok v w := by
  rcases hown.2 with ⟨rfl, rfl⟩ | ⟨g, cap, cur, rfl, _, _, hnc, _⟩
  · simp [Builtin.append_, run_underlying ht, sizeOf, typeInfo, hi, Builtin.lenOf, Builtin.firstCells]
  · simp [Builtin.append_, run_underlying ht, sizeOf, typeInfo, hi, Builtin.lenOf, Builtin.firstCells, hnc, storeCells]
theorem wpList_append_strs {ops : Array Oper} {rest : List Oper} {o : Oper} {a : Act} {w : World} {Q : Exit → Act → World → Prop} (hgd : o.guard = none) (s x : Operand)
    (ho : o.op = .call { callee := .builtin .append, args := #[s, x], argTypes := #[39, 39] })
    (base : Nat) (v : Value) (l m : List Bs) (A : Option Addr) (nl nm c : Nat) (hnl : l.length = nl) (hnm : m.length = nm) (hs : a.eval s = v) (hown : w.ownsRow base 9 1 v nl (strVs l)) (hx : a.eval x = .slice A nm c)
    (hm : StrsAt w A m) (hl : l.length + m.length ≤ 2000000000000) (hbase : base ≤ w.heap.size)
    (h : ∀ v' w', w'.ownsRow base 9 1 v' (nl + nm) (strVs (l ++ m)) → w.grownBy w' v.ownBlock → wpList Tryz.prog ops Q rest (a.put o.dst v') w') : wpList Tryz.prog ops Q (o :: rest) a w := by
  subst hnm
  subst hnl
  obtain ⟨i0, hi, hz0, hz1, hz2⟩ := info_parts string_info
  cases A with
  | none =>
    have h0 : m.length = 0 := by
      by_cases e : m.length = 0
      · exact e
      · obtain ⟨g, o, hh, _⟩ := hm (by omega); cases hh
    obtain rfl : m = [] := List.eq_nil_of_length_eq_zero h0
    refine wpList_plain hgd fun K hK => ?_
    have hrun := run_append_none_s (P := Tryz.prog) (w := w) base 39 o.type 9 i0 1 c Tryz.underlying39 hi v l.length (strVs l) hown
    unfold Oper.wp
    rw [List.length_nil] at hx
    simp [execOp, ho, resolve, invoke, builtin, hs, hx, hrun, Result.andThen]
    refine hK _ _ (h v w ?_ (World.grownBy.refl w _))
    rw [List.append_nil]; exact hown
  | some ad =>
    refine wpList_append_own w hgd s x 39 ho base 9 i0 (.string ⟨#[]⟩) 1 16 Tryz.underlying39 hi hz0 hz1 hz2 rfl (by decide) v l.length (strVs l) hs hown ad m.length c (strVs m) hx (by rw [strVs_length]; omega) ?_ ?_ (by unfold maxLen; omega) (by omega) hbase fun v' w' h1 h2 _ => h v' w' ?_ h2
    · intro j u hj
      have hjl := (List.getElem?_eq_some_iff.1 hj).1
      rw [strVs_length] at hjl
      obtain ⟨g, o, hh, hr⟩ := hm (by omega)
      cases hh
      obtain ⟨y, hy⟩ : ∃ y, m[j]? = some y := ⟨_, List.getElem?_eq_getElem hjl⟩
      rw [Go.WideShapes.add_plain]
      unfold strVs strV at hj
      rw [List.getElem?_map, hy] at hj
      cases hj
      exact hr j y hy
    · intro u hu
      unfold strVs strV at hu
      obtain ⟨y, _, rfl⟩ := List.mem_map.1 hu
      rfl
    · rw [strVs_append]; exact h1

/-- Texts of a row: where they lie. -/
def TxPost (l : List Bs) (w : World) (e : Ending) (w' : World) : Prop := ∃ A c, e = .returned (.slice A l.length c) ∧ StrsAt w' A l ∧ l.length ≤ c ∧ c ≤ maxLen ∧ Below w.heap.size w w'

theorem StrsAt.take {w : World} {A : Option Addr} {l : List Bs} (h : StrsAt w A l) (k : Nat) : StrsAt w A (l.take k) := fun hn => by
  rw [List.length_take] at hn
  obtain ⟨g, o, e, hc⟩ := h (by omega)
  refine ⟨g, o, e, fun i p hp => hc i p ?_⟩
  rw [List.getElem?_take] at hp
  split at hp
  · exact hp
  · cases hp
theorem StrsAt.drop {w : World} {g o : Nat} {l : List Bs} (h : StrsAt w (some ⟨g, o, none⟩) l) (k : Nat) : StrsAt w (some ⟨g, o + k, none⟩) (l.drop k) := fun hn => by
  rw [List.length_drop] at hn
  obtain ⟨g', o', e, hc⟩ := h (by omega)
  simp only [Option.some.injEq, Addr.mk.injEq] at e
  obtain ⟨rfl, rfl, _⟩ := e
  refine ⟨g, o + k, rfl, fun i p hp => ?_⟩
  rw [List.getElem?_drop] at hp
  rw [show o + k + i = o + (k + i) from by omega]
  exact hc _ p hp
theorem below_grow {B : Nat} {w w' : World} {v : Value} {n : Nat} {xs : List Value} (hown : w.ownsRow B 9 1 v n xs) (hg : w.grownBy w' v.ownBlock) (hB : B ≤ w.heap.size) : Below B w w' :=
  ⟨hg.os, hg.tape, hg.output, hg.size, fun j hj => hg.block j (Nat.lt_of_lt_of_le hj hB) (fun e => by have := (row_ge hown e.symm).1; omega)⟩
theorem one_at (w : World) (s : ByteArray) : StrsAt (w.alloc (.cells #[.string s] 9)) (some ⟨w.heap.size, 0, none⟩) [s.data.toList] := fun _ => ⟨_, 0, rfl, fun i p hp => by
  match i, hp with
  | 0, hp => cases hp; rw [data_mkB]; exact cell_of_row _ _ 0 _ _ _ (heap_alloc_new w _)
  | i + 1, hp => simp at hp⟩

set_option maxRecDepth 100000 in
set_option maxHeartbeats 8000000 in
theorem refadd_any (l : List Bs) (A : Option Addr) (c : Nat) (s : ByteArray) (w : World) (h : StrsAt w A l) (hc : l.length ≤ c) (hcm : c ≤ maxLen) (hl : l.length ≤ 1000000000000) (h0 : l.length = 0 → A = none ∧ c = 0) :
    Calls Tryz.prog 34 #[.slice A l.length c, .string s] w (TxPost (addS l s.data.toList) w) := by
  have hat := addS_at s.data.toList l
  obtain ⟨n, hn⟩ : ∃ n, l.length = n := ⟨_, rfl⟩
  rw [hn] at hl hc hat h0 ⊢
  have HN := Lib.hid hn
  have H0 := Lib.hid h0
  have HAT := Lib.hid hat
  have HH := Lib.hid h
  clear hn hat h h0
  go_enter Tryz.func34, Tryz.ntmps34
  go_wp2_with fail
  go_loop [5] (fun i => ∃ k : Nat, k ≤ n ∧ i = .int .i64 k ∧ Hid (∀ j y, j < k → l[j]? = some y → ltB y s.data.toList = true)) (fun i => n - (intOf i).toNat)
  case atStart => exact ⟨0, Nat.zero_le _, rfl, fun j y hj => absurd hj (Nat.not_lt_zero _)⟩
  case round =>
    obtain ⟨k, hk, rfl, hall⟩ := hrel
    by_cases hlt : k < n
    · obtain ⟨x, hx⟩ : ∃ x, l[k]? = some x := ⟨_, List.getElem?_eq_getElem (by have := HN.out; omega)⟩
      obtain ⟨g, o, hA, hr⟩ := HH.out (by have := HN.out; omega)
      subst hA
      have c1 := hr k x hx
      have HXK := Lib.hid hx
      cases hq : ltB x s.data.toList with
      | true =>
        have q1 : Op.bytesLess (mkB x).toList s.toList = true := by rw [ByteArray.toList_eq, ByteArray.toList_eq, mkB_data]; exact hq
        have HQ := Lib.hid hq
        clear hx hq hr
        go_wp2_with fail
        go_round
        case rel =>
          refine ⟨k + 1, by omega, by go_num, fun j y hj hy => ?_⟩
          by_cases e : j = k
          · subst e
            have := HXK.out.symm.trans hy
            cases this; exact HQ.out
          · exact hall.out j y (by omega) hy
        case measure => simp [intOf]; omega
      | false =>
        have q1 : Op.bytesLess (mkB x).toList s.toList = false := by rw [ByteArray.toList_eq, ByteArray.toList_eq, mkB_data]; exact hq
        have hadd := HAT.out k hall.out hk (fun y hy => by rw [hx] at hy; cases hy; exact hq)
        rw [hx] at hadd
        by_cases e : x = s.data.toList
        · subst e
          rw [if_pos rfl] at hadd
          have q2 : (mkB s.data.toList).toList = s.toList := by rw [data_mkB]
          rw [data_mkB] at q1 c1
          have HADD := Lib.hid hadd
          clear hadd hr hq hx
          go_wp2_with fail
          go_ret
          exact ⟨_, c, by rw [HADD.out, HN.out]; rfl, by rw [HADD.out]; exact HH.out, by rw [HADD.out, HN.out]; exact hc, hcm, Below.refl _ _⟩
        · rw [if_neg (by simpa using e)] at hadd
          have q2 : ((mkB x).toList == s.toList) = false := by rw [ByteArray.toList_eq, ByteArray.toList_eq, mkB_data, beq_eq_false_iff_ne]; exact e
          obtain ⟨P, hP⟩ : ∃ P, l.take k = P := ⟨_, rfl⟩
          obtain ⟨R, hR⟩ : ∃ R, l.drop k = R := ⟨_, rfl⟩
          have hPl : P.length = k := by rw [← hP, List.length_take, HN.out]; omega
          have hRl : R.length = n - k := by rw [← hR, List.length_drop, HN.out]
          have hT1 := HH.out.take k
          rw [hP, hR] at hadd
          rw [hP] at hT1
          have HADD := Lib.hid hadd
          have HT1 := Lib.hid hT1
          have HPL := Lib.hid hPl
          have HRL := Lib.hid hRl
          have HT2 : Hid (StrsAt w (some ⟨g, o + k, none⟩) R) := by unfold Hid; rw [← hR]; exact HH.out.drop k
          have e1 : (k : Int) ≤ (n : Int) := by omega
          have e2 : (k : Int) ≤ (c : Int) := by omega
          have e3 : (n : Int) ≤ (c : Int) := by omega
          have e4 : c ≠ k := by omega
          unfold maxLen at hcm
          clear hadd hr hq hx HH HAT hall hP hR hPl hRl hT1
          go_upto_region 8 with (at_builtin; go_loud (refine wpList_append_strs rfl _ _ rfl w.heap.size (.slice none 0 0) [] P _ 0 k _ rfl HPL.out rfl (World.ownsRow_nil _ _ _ _) rfl HT1.out (by rw [HPL.out, List.length_nil]; omega) (Nat.le_refl _) ?_; intro v3 w3 hown3 hg3; have hb3 := below_grow (World.ownsRow_nil _ _ _ _) hg3 (Nat.le_refl _); rw [List.nil_append, Nat.zero_add] at hown3; obtain ⟨A3, c3, hv3, _, _⟩ := ownsRow_slice hown3; subst hv3; have HO3 := Lib.hid hown3; have HB3 := Lib.hid hb3; clear hown3 hb3 hg3))
          go_upto_region 9 with (at_builtin; go_loud (refine wpList_append_strs rfl _ _ rfl w.heap.size (.slice A3 k c3) P [s.data.toList] (some ⟨w3.heap.size, 0, none⟩) k 1 1 HPL.out rfl rfl (HO3.out.alloc _) rfl (one_at w3 s) (by have := HPL.out; simp only [List.length_cons, List.length_nil]; omega) (by rw [World.size_alloc]; have := HB3.out.size; omega) ?_; intro v4 w4 hown4 hg4; have hb4 := HB3.out.trans (((Below.refl _ _).alloc HB3.out.size _).trans (below_grow (HO3.out.alloc _) hg4 (by rw [World.size_alloc]; have := HB3.out.size; omega))); obtain ⟨A4, c4, hv4, _, _⟩ := ownsRow_slice hown4; subst hv4; have HO4 := Lib.hid hown4; have HB4 := Lib.hid hb4; clear hown4 hb4 hg4))
          go_upto_region 10 with (at_builtin; go_loud (refine wpList_append_strs rfl _ _ rfl w.heap.size (.slice A4 (k + 1) c4) (P ++ [s.data.toList]) R _ (k + 1) (n - k) _ (by rw [List.length_append, HPL.out]; rfl) HRL.out rfl HO4.out rfl (HT2.out.below HB4.out) (by have := HPL.out; have := HRL.out; simp only [List.length_append, List.length_cons, List.length_nil]; omega) HB4.out.size ?_; intro v5 w5 hown5 hg5; have hb5 := HB4.out.trans (below_grow HO4.out hg5 HB4.out.size); rw [List.append_assoc, List.singleton_append] at hown5; obtain ⟨A5, c5, hv5, hst5, hc5, hcm5⟩ := strsT_own hown5 (by have := HPL.out; have := HRL.out; simp only [List.length_append, List.length_cons]; omega); subst hv5; have HST5 := Lib.hid hst5; have HB5 := Lib.hid hb5; have HC5 := Lib.hid hc5; clear hown5 hb5 hg5 hc5))
          go_wp2_with fail
          go_ret
          exact ⟨A5, c5, by rw [HADD.out, List.length_append, List.length_cons]; rfl, by rw [HADD.out]; exact HST5.out.at_, by rw [HADD.out]; exact HC5.out, hcm5, HB5.out⟩
    · obtain rfl : k = n := by omega
      have hadd := HAT.out k hall.out hk (fun y hy => by rw [List.getElem?_eq_none (by rw [HN.out]; exact Nat.le_refl _)] at hy; cases hy)
      rw [if_neg (by rw [List.getElem?_eq_none (by rw [HN.out]; exact Nat.le_refl _)]; simp)] at hadd
      obtain ⟨P, hP⟩ : ∃ P, l.take k = P := ⟨_, rfl⟩
      obtain ⟨R, hR⟩ : ∃ R, l.drop k = R := ⟨_, rfl⟩
      have hPl : P.length = k := by rw [← hP, List.length_take, HN.out]; omega
      have hRl : R.length = 0 := by rw [← hR, List.length_drop, HN.out]; omega
      have hT1 := HH.out.take k
      rw [hP, hR] at hadd
      rw [hP] at hT1
      have HADD := Lib.hid hadd
      have HT1 := Lib.hid hT1
      have HPL := Lib.hid hPl
      have HRL := Lib.hid hRl
      have hnil : R = [] := List.eq_nil_of_length_eq_zero hRl
      have HNIL : Hid (∀ (W : World) (A : Option Addr), StrsAt W A R) := fun W A => by rw [hnil]; exact StrsAt.nil _ _
      unfold maxLen at hcm
      by_cases hk0 : k = 0
      · subst hk0
        obtain ⟨rfl, rfl⟩ := H0.out rfl
        clear hadd HH HAT hall hnil hP hR hPl hRl hT1
        go_upto_region 8 with (at_builtin; go_loud (refine wpList_append_strs rfl _ _ rfl w.heap.size (.slice none 0 0) [] P _ 0 0 _ rfl HPL.out rfl (World.ownsRow_nil _ _ _ _) rfl HT1.out (by rw [HPL.out, List.length_nil]; omega) (Nat.le_refl _) ?_; intro v3 w3 hown3 hg3; have hb3 := below_grow (World.ownsRow_nil _ _ _ _) hg3 (Nat.le_refl _); rw [List.nil_append] at hown3; obtain ⟨A3, c3, hv3, _, _⟩ := ownsRow_slice hown3; subst hv3; have HO3 := Lib.hid hown3; have HB3 := Lib.hid hb3; clear hown3 hb3 hg3))
        go_upto_region 9 with (at_builtin; go_loud (refine wpList_append_strs rfl _ _ rfl w.heap.size (.slice A3 0 c3) P [s.data.toList] (some ⟨w3.heap.size, 0, none⟩) 0 1 1 HPL.out rfl rfl (HO3.out.alloc _) rfl (one_at w3 s) (by have := HPL.out; simp only [List.length_cons, List.length_nil]; omega) (by rw [World.size_alloc]; have := HB3.out.size; omega) ?_; intro v4 w4 hown4 hg4; have hb4 := HB3.out.trans (((Below.refl _ _).alloc HB3.out.size _).trans (below_grow (HO3.out.alloc _) hg4 (by rw [World.size_alloc]; have := HB3.out.size; omega))); obtain ⟨A4, c4, hv4, _, _⟩ := ownsRow_slice hown4; subst hv4; have HO4 := Lib.hid hown4; have HB4 := Lib.hid hb4; clear hown4 hb4 hg4))
        go_upto_region 10 with (at_builtin; go_loud (refine wpList_append_strs rfl _ _ rfl w.heap.size (.slice A4 1 c4) (P ++ [s.data.toList]) R _ 1 (0) _ (by rw [List.length_append, HPL.out]; rfl) HRL.out rfl HO4.out rfl (HNIL.out _ _) (by have := HPL.out; have := HRL.out; simp only [List.length_append, List.length_cons, List.length_nil]; omega) HB4.out.size ?_; intro v5 w5 hown5 hg5; have hb5 := HB4.out.trans (below_grow HO4.out hg5 HB4.out.size); rw [List.append_assoc, List.singleton_append] at hown5; obtain ⟨A5, c5, hv5, hst5, hc5, hcm5⟩ := strsT_own hown5 (by have := HPL.out; have := HRL.out; simp only [List.length_append, List.length_cons]; omega); subst hv5; have HST5 := Lib.hid hst5; have HB5 := Lib.hid hb5; have HC5 := Lib.hid hc5; clear hown5 hb5 hg5 hc5))
        go_wp2_with fail
        go_ret
        exact ⟨A5, c5, by rw [HADD.out, List.length_append, List.length_cons]; rfl, by rw [HADD.out]; exact HST5.out.at_, by rw [HADD.out]; exact HC5.out, hcm5, HB5.out⟩
      · obtain ⟨g, o, hA, _⟩ := HH.out (by rw [HN.out]; omega)
        subst hA
        have e2 : (k : Int) ≤ (c : Int) := by omega
        have e5 : c ≠ 0 := by omega
        clear hadd HH HAT hall hnil hP hR hPl hRl hT1
        by_cases hck : c = k
        · subst hck
          go_upto_region 8 with (at_builtin; go_loud (refine wpList_append_strs rfl _ _ rfl w.heap.size (.slice none 0 0) [] P _ 0 c _ rfl HPL.out rfl (World.ownsRow_nil _ _ _ _) rfl HT1.out (by rw [HPL.out, List.length_nil]; omega) (Nat.le_refl _) ?_; intro v3 w3 hown3 hg3; have hb3 := below_grow (World.ownsRow_nil _ _ _ _) hg3 (Nat.le_refl _); rw [List.nil_append, Nat.zero_add] at hown3; obtain ⟨A3, c3, hv3, _, _⟩ := ownsRow_slice hown3; subst hv3; have HO3 := Lib.hid hown3; have HB3 := Lib.hid hb3; clear hown3 hb3 hg3))
          go_upto_region 9 with (at_builtin; go_loud (refine wpList_append_strs rfl _ _ rfl w.heap.size (.slice A3 c c3) P [s.data.toList] (some ⟨w3.heap.size, 0, none⟩) c 1 1 HPL.out rfl rfl (HO3.out.alloc _) rfl (one_at w3 s) (by have := HPL.out; simp only [List.length_cons, List.length_nil]; omega) (by rw [World.size_alloc]; have := HB3.out.size; omega) ?_; intro v4 w4 hown4 hg4; have hb4 := HB3.out.trans (((Below.refl _ _).alloc HB3.out.size _).trans (below_grow (HO3.out.alloc _) hg4 (by rw [World.size_alloc]; have := HB3.out.size; omega))); obtain ⟨A4, c4, hv4, _, _⟩ := ownsRow_slice hown4; subst hv4; have HO4 := Lib.hid hown4; have HB4 := Lib.hid hb4; clear hown4 hb4 hg4))
          go_upto_region 10 with (at_builtin; go_loud (refine wpList_append_strs rfl _ _ rfl w.heap.size (.slice A4 (c + 1) c4) (P ++ [s.data.toList]) R _ (c + 1) (0) _ (by rw [List.length_append, HPL.out]; rfl) HRL.out rfl HO4.out rfl (HNIL.out _ _) (by have := HPL.out; have := HRL.out; simp only [List.length_append, List.length_cons, List.length_nil]; omega) HB4.out.size ?_; intro v5 w5 hown5 hg5; have hb5 := HB4.out.trans (below_grow HO4.out hg5 HB4.out.size); rw [List.append_assoc, List.singleton_append] at hown5; obtain ⟨A5, c5, hv5, hst5, hc5, hcm5⟩ := strsT_own hown5 (by have := HPL.out; have := HRL.out; simp only [List.length_append, List.length_cons]; omega); subst hv5; have HST5 := Lib.hid hst5; have HB5 := Lib.hid hb5; have HC5 := Lib.hid hc5; clear hown5 hb5 hg5 hc5))
          go_wp2_with fail
          go_ret
          exact ⟨A5, c5, by rw [HADD.out, List.length_append, List.length_cons]; rfl, by rw [HADD.out]; exact HST5.out.at_, by rw [HADD.out]; exact HC5.out, hcm5, HB5.out⟩
        · have e4 : c ≠ k := hck
          go_upto_region 8 with (at_builtin; go_loud (refine wpList_append_strs rfl _ _ rfl w.heap.size (.slice none 0 0) [] P _ 0 k _ rfl HPL.out rfl (World.ownsRow_nil _ _ _ _) rfl HT1.out (by rw [HPL.out, List.length_nil]; omega) (Nat.le_refl _) ?_; intro v3 w3 hown3 hg3; have hb3 := below_grow (World.ownsRow_nil _ _ _ _) hg3 (Nat.le_refl _); rw [List.nil_append, Nat.zero_add] at hown3; obtain ⟨A3, c3, hv3, _, _⟩ := ownsRow_slice hown3; subst hv3; have HO3 := Lib.hid hown3; have HB3 := Lib.hid hb3; clear hown3 hb3 hg3))
          go_upto_region 9 with (at_builtin; go_loud (refine wpList_append_strs rfl _ _ rfl w.heap.size (.slice A3 k c3) P [s.data.toList] (some ⟨w3.heap.size, 0, none⟩) k 1 1 HPL.out rfl rfl (HO3.out.alloc _) rfl (one_at w3 s) (by have := HPL.out; simp only [List.length_cons, List.length_nil]; omega) (by rw [World.size_alloc]; have := HB3.out.size; omega) ?_; intro v4 w4 hown4 hg4; have hb4 := HB3.out.trans (((Below.refl _ _).alloc HB3.out.size _).trans (below_grow (HO3.out.alloc _) hg4 (by rw [World.size_alloc]; have := HB3.out.size; omega))); obtain ⟨A4, c4, hv4, _, _⟩ := ownsRow_slice hown4; subst hv4; have HO4 := Lib.hid hown4; have HB4 := Lib.hid hb4; clear hown4 hb4 hg4))
          go_upto_region 10 with (at_builtin; go_loud (refine wpList_append_strs rfl _ _ rfl w.heap.size (.slice A4 (k + 1) c4) (P ++ [s.data.toList]) R _ (k + 1) (0) _ (by rw [List.length_append, HPL.out]; rfl) HRL.out rfl HO4.out rfl (HNIL.out _ _) (by have := HPL.out; have := HRL.out; simp only [List.length_append, List.length_cons, List.length_nil]; omega) HB4.out.size ?_; intro v5 w5 hown5 hg5; have hb5 := HB4.out.trans (below_grow HO4.out hg5 HB4.out.size); rw [List.append_assoc, List.singleton_append] at hown5; obtain ⟨A5, c5, hv5, hst5, hc5, hcm5⟩ := strsT_own hown5 (by have := HPL.out; have := HRL.out; simp only [List.length_append, List.length_cons]; omega); subst hv5; have HST5 := Lib.hid hst5; have HB5 := Lib.hid hb5; have HC5 := Lib.hid hc5; clear hown5 hb5 hg5 hc5))
          go_wp2_with fail
          go_ret
          exact ⟨A5, c5, by rw [HADD.out, List.length_append, List.length_cons]; rfl, by rw [HADD.out]; exact HST5.out.at_, by rw [HADD.out]; exact HC5.out, hcm5, HB5.out⟩
end Go.Proofs.YtioiieammmdilaaGreatDoor
namespace Go.Proofs.YtioiieammmdilaaGreatDoor
open Go

theorem splitY_hit (c b : UInt8) (r : Bs) (h : (b == c) = true) : splitL c (b :: r) = [] :: splitL c r := by
  simp only [splitL, h, if_true]
theorem splitY_miss (c b : UInt8) (r p : Bs) (ps : List Bs) (h : (b == c) = false) (e : splitL c r = p :: ps) :
    splitL c (b :: r) = (b :: p) :: ps := by
  simp only [splitL, h, Bool.false_eq_true, if_false, e]
/-- A piece, then what is behind. -/
theorem splitY_put (c : UInt8) : ∀ (a b : Bs), (∀ x ∈ a, (x == c) = false) → splitL c (a ++ c :: b) = a :: splitL c b
  | [], b, _ => by rw [List.nil_append, splitY_hit c c b (by simp)]
  | x :: r, b, h => by
    have ih := splitY_put c r b (fun y hy => h y (by simp [hy]))
    rw [List.cons_append]
    exact splitY_miss c x _ _ _ (h x (by simp)) ih
theorem splitY_all (c : UInt8) : ∀ a : Bs, (∀ x ∈ a, (x == c) = false) → splitL c a = [a]
  | [], _ => rfl
  | x :: r, h => splitY_miss c x r _ _ (h x (by simp)) (splitY_all c r (fun y hy => h y (by simp [hy])))
theorem named_plain {n : Bs} (h : namedB n = true) (c : UInt8) (hc : plainN c = false) : ∀ x ∈ n, (x == c) = false := fun x hx => by
  unfold namedB at h
  simp only [Bool.and_eq_true] at h
  have := List.all_eq_true.1 h.2 x hx
  rw [beq_eq_false_iff_ne]
  rintro rfl
  rw [hc] at this; cases this
theorem named_ne {n : Bs} (h : namedB n = true) : n.isEmpty = false := by
  unfold namedB at h
  cases n with
  | nil => simp at h
  | cons _ _ => rfl
theorem take_all (p : UInt8 → Bool) : ∀ n : Bs, (∀ x ∈ n, p x = true) → n.takeWhile p = n
  | [], _ => rfl
  | x :: r, h => by rw [List.takeWhile_cons, if_pos (h x (by simp)), take_all p r (fun y hy => h y (by simp [hy]))]
theorem words_named {n : Bs} (h : namedB n = true) : wordsL n = [n] := by
  have h1 : cutR n = n := by
    exact take_all _ n fun x hx => by
      have := named_plain h 35 (by decide) x hx
      simpa using this
  unfold wordsL
  rw [h1, splitY_all 32 n (named_plain h 32 (by decide))]
  simp [named_ne h]
theorem tell_name (o : Ow) {n : Bs} (h : namedB n = true) : tellL o [n] = some (o.1, o.2 ++ [([], [n])]) := by
  have h1 : isNopL [n] = false := by unfold isNopL; rw [beq_eq_false_iff_ne]; simp
  have h2 : isPerL [n] = false := by unfold isPerL; simp
  have h3 : isNameL [n] = true := by unfold isNameL; simp [h]
  unfold tellL kindL
  rw [h1, h2, h3]
  rfl
def nameB_ (n : Bs) : Bs := n ++ [10]
def bodyN (l : List Bs) : Bs := l.flatMap nameB_
theorem bodyN_snoc (l : List Bs) (n : Bs) : bodyN (l ++ [n]) = bodyN l ++ n ++ [10] := by unfold bodyN nameB_; rw [List.flatMap_append]; simp
theorem split_body : ∀ l : List Bs, (∀ n ∈ l, namedB n = true) → splitL 10 (bodyN l) = l ++ [[]]
  | [], _ => rfl
  | n :: r, h => by
    have e : bodyN (n :: r) = n ++ 10 :: bodyN r := by unfold bodyN nameB_; simp
    rw [e, splitY_put 10 n _ (named_plain (h n (by simp)) 10 (by decide)), split_body r (fun m hm => h m (by simp [hm]))]
    rfl
theorem parseL_names : ∀ (l : List Bs) (o : Ow), (∀ n ∈ l, namedB n = true) → l.foldl (fun o l => o.bind (tellL · (wordsL l))) (some o) = some (o.1, o.2 ++ l.map (fun n => ([], [n])))
  | [], o, _ => by simp
  | n :: r, o, h => by
    have h1 := h n (by simp)
    rw [List.foldl_cons]
    show r.foldl _ (tellL o (wordsL n)) = _
    rw [words_named h1, tell_name o h1, parseL_names r _ (fun m hm => h m (by simp [hm]))]
    simp
theorem parse_body (l : List Bs) (h : ∀ n ∈ l, namedB n = true) (hs : (bodyN l).length ≤ 16384) : parseV (bodyN l) = (0, (false, l.map (fun n => ([], [n])))) := by
  unfold parseV
  rw [if_neg (by omega), split_body l h]
  have : parseL (l ++ [[]]) = some (false, l.map (fun n => ([], [n]))) := by
    rw [parseL_snoc]
    unfold parseL
    rw [show (some emptyO) = some emptyO from rfl, parseL_names l emptyO h]
    show tellL _ (wordsL []) = _
    rw [show wordsL [] = [] from rfl]
    simp [tellL, kindL, tellK, emptyO]
  rw [this]
theorem gather_names (p : Bs → Bool) : ∀ (l K : List Bs), gatherS K (l.map (fun n => ([], [n]))) p = l.foldl addS K
  | [], K => rfl
  | n :: r, K => by
    have ih := gather_names p r (addS K n)
    unfold gatherS at ih ⊢
    rw [List.map_cons, List.foldl_cons, List.foldl_cons]
    exact ih
theorem own_join {d : Bs} (h : d ≠ []) : join2 d ownW ≠ ownW := by
  unfold join2
  rw [if_neg h, if_neg (by decide)]
  intro e
  have := congrArg List.length e
  rw [List.length_append, List.length_cons] at this
  omega
theorem atT_one (b d : Bs) (h : d ≠ []) : atT [(ownW, b)] d = (0, emptyO) := by
  have : getT [(ownW, b)] (join2 d ownW) = none := by
    unfold getT
    rw [List.find?_cons_of_neg (by simpa using (own_join h).symm)]
    rfl
  unfold atT; rw [this]
theorem atT_top (b : Bs) : atT [(ownW, b)] [] = parseV b := rfl
theorem ofStep_unfold (t : List Fl) (home base d : Bs) (ds K : List Bs) : ofStep t home base (d :: ds) K = if (atT t d).1 = 0 then (if (atT t d).2.1 = true then (0, gatherS K (atT t d).2.2 (askB home base d)) else ofStep t home base ds (gatherS K (atT t d).2.2 (askB home base d))) else ((atT t d).1, []) := by
  conv => lhs; unfold ofStep
theorem ofStep_one (l : List Bs) (h : ∀ n ∈ l, namedB n = true) (hs : (bodyN l).length ≤ 16384) (home base : Bs) : ∀ (k : Nat) (d K : Bs × List Bs), d.1.length ≤ k → ofStep [(ownW, bodyN l)] home base (ups d.1) K.2 = (0, l.foldl addS K.2) := by
  intro k
  induction k with
  | zero =>
    intro d K hd
    have e : d.1 = [] := List.eq_nil_of_length_eq_zero (by omega)
    rw [e, ups_step]
    simp only [List.isEmpty_nil, if_true]
    rw [ofStep_unfold, atT_top, parse_body l h hs]
    simp only [if_true, Bool.false_eq_true, if_false, gather_names]
    rfl
  | succ k ih =>
    intro d K hd
    by_cases e : d.1 = []
    · exact ih d K (by rw [e]; simp)
    · rw [ups_step, ofStep_unfold, atT_one _ _ e]
      have hne : d.1.isEmpty = false := by
        cases h0 : d.1 with
        | nil => exact absurd h0 e
        | cons _ _ => rfl
      simp only [if_true, emptyO, Bool.false_eq_true, if_false, hne]
      have hl := dirL_less hne
      exact ih (dirL d.1, []) ([], gatherS K.2 [] (askB home base d.1)) (by show (dirL d.1).length ≤ k; omega)
theorem ofT_one (l : List Bs) (s : Bs) (h : ∀ n ∈ l, namedB n = true) (hs : (bodyN l).length ≤ 16384) (hr : rightB s = true) : ofT [(ownW, bodyN l)] s = (0, l.foldl addS []) := by
  unfold ofT
  rw [hr, if_pos rfl]
  exact ofStep_one l h hs _ _ (dirL s).length (dirL s, []) ([], []) (Nat.le_refl _)
theorem ofStep_bare (home base : Bs) : ∀ (ds K : List Bs), ofStep [] home base ds K = (0, K)
  | [], K => rfl
  | d :: ds, K => by
    rw [ofStep_unfold]
    have : atT [] d = (0, emptyO) := rfl
    rw [this]
    simp only [if_true, emptyO, Bool.false_eq_true, if_false]
    exact ofStep_bare home base ds _
theorem ofT_bare (s : Bs) (hr : rightB s = true) : ofT [] s = (0, []) := by
  unfold ofT
  rw [hr, if_pos rfl]
  exact ofStep_bare _ _ _ _
end Go.Proofs.YtioiieammmdilaaGreatDoor
namespace Go.Proofs.YtioiieammmdilaaGreatDoor
open Go Go.RowKit Go.Shelf Go.Proofs
attribute [local go_sem] Oper.semAt_some

structure TyAt (w : World) (A : Option Addr) (c : Nat) (l : List Bs) : Prop where
  at_ : StrsAt w A l
  cap : l.length ≤ c
  capm : c ≤ maxLen
  zero : l.length = 0 → A = none ∧ c = 0
theorem TyAt.nil (w : World) : TyAt w none 0 [] := ⟨StrsAt.nil _ _, Nat.le_refl _, Nat.zero_le _, fun _ => ⟨rfl, rfl⟩⟩
theorem TyAt.below {w w' : World} {A : Option Addr} {c : Nat} {l : List Bs} (h : TyAt w A c l) (hb : Below w.heap.size w w') : TyAt w' A c l := ⟨h.at_.below hb, h.cap, h.capm, h.zero⟩
theorem addY_ne (s : Bs) (l : List Bs) : (addS l s).length ≠ 0 := by
  cases l with
  | nil => simp [addS]
  | cons x r => unfold addS; split <;> (try split) <;> simp
theorem foldY_len : ∀ (m K : List Bs), (m.foldl addS K).length ≤ K.length + m.length
  | [], K => by simp
  | y :: m, K => by
    rw [List.foldl_cons]
    have := foldY_len m (addS K y)
    have := addS_len y K
    simp only [List.length_cons]; omega
theorem bodyN_len : ∀ l : List Bs, (∀ n ∈ l, namedB n = true) → (bodyN l).length ≤ l.length * 21
  | [], _ => by simp [bodyN]
  | n :: r, h => by
    have ih := bodyN_len r (fun m hm => h m (by simp [hm]))
    have h1 := h n (by simp)
    unfold namedB at h1
    simp only [Bool.and_eq_true, decide_eq_true_eq] at h1
    have h2 := h1.1.2
    have e : bodyN (n :: r) = n ++ 10 :: bodyN r := by unfold bodyN nameB_; simp
    rw [e, List.length_append, List.length_cons, List.length_cons]; omega
theorem cat_body (l : List Bs) (n : Bs) : mkB (bodyN l) ++ mkB n ++ ⟨#[10]⟩ = mkB (bodyN (l ++ [n])) := by
  rw [bodyN_snoc]; apply ByteArray.ext; simp [mkB]

theorem one_tree (w : World) (B : ByteArray) (_hB : B.size ≤ 1000) :
    TreeAt ((w.drew.alloc (rowB w B)).alloc (.cells #[.string ⟨#[79, 87, 78, 69, 82, 83]⟩, .slice (some ⟨w.heap.size, 0, none⟩) B.size (capB w B)] 52)) (some ⟨w.heap.size + 1, 0, none⟩) 1 [⟨⟨#[79, 87, 78, 69, 82, 83]⟩, some ⟨w.heap.size, 0, none⟩, capB w B, B.data.toList⟩] ∧
    Below w.heap.size w ((w.drew.alloc (rowB w B)).alloc (.cells #[.string ⟨#[79, 87, 78, 69, 82, 83]⟩, .slice (some ⟨w.heap.size, 0, none⟩) B.size (capB w B)] 52)) := by
  have hl : B.data.toList.length = B.size := Array.length_toList
  have h0 := heap_alloc_new w.drew (rowB w B)
  have h1 := heap_alloc_new (w.drew.alloc (rowB w B)) (.cells #[.string ⟨#[79, 87, 78, 69, 82, 83]⟩, .slice (some ⟨w.heap.size, 0, none⟩) B.size (capB w B)] 52)
  have hb1 : Below (w.drew.alloc (rowB w B)).heap.size (w.drew.alloc (rowB w B)) ((w.drew.alloc (rowB w B)).alloc (.cells #[.string ⟨#[79, 87, 78, 69, 82, 83]⟩, .slice (some ⟨w.heap.size, 0, none⟩) B.size (capB w B)] 52)) := (Below.refl _ _).alloc (Nat.le_refl _) _
  have hb0 : Below w.heap.size w (w.drew.alloc (rowB w B)) := (⟨rfl, rfl, rfl, Nat.le_refl _, fun _ _ => rfl⟩ : Below w.heap.size w w.drew).alloc (Nat.le_refl _) _
  have hz : (w.drew.alloc (rowB w B)).heap.size = w.heap.size + 1 := World.size_alloc _ _
  have hk0 := (hb1.block w.heap.size (by omega)).trans h0
  rw [hz] at h1
  refine ⟨⟨Nat.le_refl _, by decide, fun _ => ⟨_, 0, rfl, fun i x hx => ?_⟩, fun x hx => ?_⟩, hb0.trans (hb1.mono hb0.size)⟩
  · match i, hx with
    | 0, hx =>
      cases hx
      refine ⟨cell_of_row _ _ 0 _ _ _ h1, ?_⟩
      show _ = some (Value.slice (some ⟨w.heap.size, 0, none⟩) B.data.toList.length (capB w B))
      rw [hl]; exact cell_of_row _ _ 1 _ _ _ h1
    | i + 1, hx => simp at hx
  · simp only [List.mem_singleton] at hx
    subst hx
    intro _
    refine ⟨w.heap.size, 0, rfl, fun i hi => ?_⟩
    have hi : i < B.data.toList.length := hi
    have hi' : i < B.data.size := by show i < B.size; omega
    rw [Nat.zero_add, cell_of_row _ w.heap.size i _ _ _ (show _ = some (Obj.cells (bytesRow B (capB w B)) 5 ((bytesRow B (capB w B)).size, (bytesRow B (capB w B)).size + 1)) from hk0), bytesRow_at B (capB w B) i hi']
    unfold numsB
    rw [List.getD_eq_getElem?_getD, List.getElem?_map, List.getElem?_eq_getElem hi]
    rfl

set_option maxRecDepth 100000 in
set_option maxHeartbeats 8000000 in
theorem oonly_any (l : List Bs) (A : Option Addr) (c : Nat) (s : ByteArray) (w : World) (h : StrsAt w A l) (hl : l.length ≤ 1000000000) (hx : ∀ p ∈ l, p.length ≤ 1000000000000000) (hs : s.size ≤ 1000000000000000) (hm : MaxOk w) (hT : TabsOk w) :
    Calls Tryz.prog 9 #[.slice A l.length c, .string s] w (BoolPost true w) := by
  have HK := Lib.hid (fun (W : World) (hb : Below w.heap.size w W) => oknown_any W (hm.below hb) (hT.below (Nat.le_refl _) hb))
  have HOF := Lib.hid (fun (l : List FX) (A : Option Addr) (c : Nat) (W : World) (hb : Below w.heap.size w W) (h : TreeAt W A c l) (hsm : SmallX l) (h2 : s.size ≤ 1000000) => of_all l A c s W h hsm h2 (hm.below hb) (hT.below (Nat.le_refl _) hb))
  have HX := Lib.hid hx
  have HH := Lib.hid h
  obtain ⟨n, hn⟩ : ∃ n, l.length = n := ⟨_, rfl⟩
  rw [hn] at hl ⊢
  have HN := Lib.hid hn
  clear hn h hx hm hT
  go_enter Tryz.func9, Tryz.ntmps9
  go_wp2_with fail
  go_loopw [5, 6, 7] (fun v5 v6 v7 wr => ∃ (k : Nat) (A6 : Option Addr) (c6 : Nat), k ≤ n ∧ v7 = .int .i64 k ∧ v5 = .string (mkB (bodyN (l.take k))) ∧ v6 = .slice A6 ((l.take k).foldl addS []).length c6 ∧ TyAt wr A6 c6 ((l.take k).foldl addS []) ∧ Hid (∀ y ∈ l.take k, namedB y = true) ∧ Below w.heap.size w wr) (fun _ _ v7 _ => n - (intOf v7).toNat)
  case atStart => exact ⟨0, none, 0, Nat.zero_le _, rfl, rfl, rfl, TyAt.nil _, by unfold Hid; intro y hy; simp at hy, Below.refl _ _⟩
  case round =>
    obtain ⟨k, A6, c6, hk, rfl, rfl, rfl, hT6, hall, hbr⟩ := hrel
    obtain ⟨K, hK⟩ : ∃ x, (l.take k).foldl addS [] = x := ⟨_, rfl⟩
    have hKl : K.length ≤ k := by
      rw [← hK]; have := foldY_len (l.take k) []; have := List.length_take_le k l
      simp only [List.length_nil] at *; omega
    rw [hK] at hT6 ⊢
    by_cases hlt : k < n
    · obtain ⟨x, hxk⟩ : ∃ x, l[k]? = some x := ⟨_, List.getElem?_eq_getElem (by have := HN.out; omega)⟩
      obtain ⟨g, o, hA, hr⟩ := (HH.out.below hbr) (by have := HN.out; omega)
      subst hA
      have c1 := hr k x hxk
      have hxl := HX.out x (List.mem_of_getElem? hxk)
      have hcall := named_any (mkB x) wr (by rw [mkB_size]; unfold maxLen; omega)
      rw [mkB_data] at hcall
      have HC := Lib.hid hcall
      have hts : l.take (k + 1) = l.take k ++ [x] := by rw [List.take_add_one, hxk]; rfl
      have HKK := Lib.hid hK
      have HTS := Lib.hid hts
      have HT6 := Lib.hid hT6
      have HBR := Lib.hid hbr
      clear hcall hr hts hxk hK hT6 hbr
      cases hq : namedB x with
      | false =>
        have HQ := Lib.hid hq
        have HKN := Lib.hid (HK.out wr HBR.out)
        clear hq HK
        go_wp2_with fail
        refine HC.out.mono ?_
        rintro e w' ⟨rfl, hw⟩
        have hw := hw.symm
        subst hw
        rw [HQ.out]
        go_wp2_with fail
        refine HKN.out.mono ?_
        rintro e w2 ⟨rfl, hb2⟩
        go_wp2_with fail
        go_ret
        exact ⟨rfl, HBR.out.trans (hb2.mono HBR.out.size)⟩
      | true =>
        have HQ := Lib.hid hq
        have hca := cat_body (l.take k) x
        rw [← HTS.out] at hca
        have HCA := Lib.hid hca
        have HADD := Lib.hid (refadd_any K A6 c6 (mkB x) wr HT6.out.at_ HT6.out.cap HT6.out.capm (by omega) HT6.out.zero)
        rw [mkB_data] at HADD
        have hlim : (bodyN (l.take k)).length ≤ 21000000000 := by
          have := bodyN_len (l.take k) hall.out
          have := List.length_take_le k l
          omega
        have hxs : x.length ≤ 20 := by
          have := hq; unfold namedB at this; simp only [Bool.and_eq_true, decide_eq_true_eq] at this; exact this.1.2
        have zB : (mkB (bodyN (l.take k))).size ≤ 21000000000 := by rw [mkB_size]; exact hlim
        have zX : (mkB x).size ≤ 20 := by rw [mkB_size]; exact hxs
        clear hq hca hlim hxs
        go_wp2_with fail
        refine HC.out.mono ?_
        rintro e w' ⟨rfl, hw⟩
        have hw := hw.symm
        subst hw
        rw [HQ.out]
        go_wp2_with fail
        refine HADD.out.mono ?_
        rintro e w2 ⟨A9, c9, rfl, hs9, hc9, hm9, hb9⟩
        have HS9 := Lib.hid hs9
        have HC9 := Lib.hid hc9
        have HB9 := Lib.hid (HBR.out.trans (hb9.mono HBR.out.size))
        clear hs9 hc9 hb9
        go_wp2_with fail
        go_roundw
        case rel =>
          have hf : (l.take (k + 1)).foldl addS [] = addS K x := by rw [HTS.out, List.foldl_append, HKK.out]; rfl
          refine ⟨k + 1, A9, c9, by omega, by go_num, by rw [HCA.out], by rw [hf], by rw [hf]; exact ⟨HS9.out, HC9.out, hm9, fun h => absurd h (addY_ne _ _)⟩, fun y hy => ?_, HB9.out⟩
          rw [HTS.out] at hy
          rcases List.mem_append.1 hy with hy | hy
          · exact hall.out y hy
          · simp only [List.mem_singleton] at hy; subst hy; exact HQ.out
        case measure => simp [intOf]; omega
    · obtain rfl : k = n := by omega
      have htk : l.take k = l := List.take_of_length_le (by rw [HN.out]; exact Nat.le_refl _)
      rw [htk] at hK hall ⊢
      obtain ⟨B, hB⟩ : ∃ x, mkB (bodyN l) = x := ⟨_, rfl⟩
      rw [hB]
      have hBl : B.data.toList = bodyN l := by rw [← hB, mkB_data]
      have hBs : B.size = (bodyN l).length := by rw [← hB, mkB_size]
      have HALL := Lib.hid hall.out
      have HBL := Lib.hid hBl
      have HKK := Lib.hid hK
      have HT6 := Lib.hid hT6
      have HBR := Lib.hid hbr
      have HKN := Lib.hid (HK.out wr hbr)
      have hblim := bodyN_len l hall.out
      rw [HN.out] at hblim
      have hBlim : B.size ≤ 1000000000000 := by omega
      have HBS := Lib.hid hBs
      clear hall hB hBl hT6 hbr htk hK hblim hBs HX HH
      by_cases h1 : 800 < B.size
      · have g1 : (800 : Int) < (B.size : Int) := by omega
        go_wp2_with fail
        refine HKN.out.mono ?_
        rintro e w9 ⟨rfl, hb9⟩
        go_wp2_with fail
        go_ret
        exact ⟨rfl, HBR.out.trans (hb9.mono HBR.out.size)⟩
      · have g1 : ¬ (800 : Int) < (B.size : Int) := by omega
        by_cases h2 : 200 < s.size
        · have g2 : (200 : Int) < (s.size : Int) := by omega
          go_wp2_with fail
          refine HKN.out.mono ?_
          rintro e w9 ⟨rfl, hb9⟩
          go_wp2_with fail
          go_ret
          exact ⟨rfl, HBR.out.trans (hb9.mono HBR.out.size)⟩
        · have g2 : ¬ (200 : Int) < (s.size : Int) := by omega
          have HRT := Lib.hid (refright_any s wr (by omega))
          clear HKN
          cases hr : rightB s.data.toList with
          | false =>
            have HR := Lib.hid hr
            clear hr
            go_wp2_with fail
            refine HRT.out.mono ?_
            rintro e w1 ⟨rfl, hb1⟩
            rw [HR.out]
            have HB1 := Lib.hid (HBR.out.trans (hb1.mono HBR.out.size))
            have HKN := Lib.hid (HK.out w1 HB1.out)
            clear hb1
            go_wp2_with fail
            refine HKN.out.mono ?_
            rintro e w9 ⟨rfl, hb9⟩
            go_wp2_with fail
            go_ret
            exact ⟨rfl, HB1.out.trans (hb9.mono HB1.out.size)⟩
          | true =>
            have HR := Lib.hid hr
            clear hr
            go_wp2_with fail
            refine HRT.out.mono ?_
            rintro e w1 ⟨rfl, hb1⟩
            rw [HR.out]
            have HB1 := Lib.hid (HBR.out.trans (hb1.mono HBR.out.size))
            have HT1 := Lib.hid (HT6.out.below hb1)
            have hcv := conv_bytes w1 B
            clear hb1
            obtain ⟨hTr, hbT⟩ := one_tree w1 B (by omega)
            have hO1 := HOF.out [⟨⟨#[79, 87, 78, 69, 82, 83]⟩, some ⟨w1.heap.size, 0, none⟩, capB w1 B, B.data.toList⟩] _ 1 _ (HB1.out.trans (hbT.mono HB1.out.size)) hTr ⟨by show (1 : Nat) ≤ 100000; decide, fun x hx => by
              simp only [List.mem_singleton] at hx; subst hx
              refine ⟨by show (6 : Nat) ≤ 1000000; decide, ?_⟩
              show B.data.toList.length ≤ 1000000
              have : B.data.toList.length = B.size := Array.length_toList
              omega⟩ (by omega)
            rw [show flsX [⟨⟨#[79, 87, 78, 69, 82, 83]⟩, some ⟨w1.heap.size, 0, none⟩, capB w1 B, B.data.toList⟩] = [(ownW, bodyN l)] from by rw [← HBL.out]; rfl, ofT_one l s.data.toList HALL.out (by have := HBS.out; omega) HR.out, HKK.out] at hO1
            unfold TextsPost at hO1
            simp only at hO1
            have HO1 := Lib.hid hO1
            have HBT := Lib.hid (HB1.out.trans (hbT.mono HB1.out.size))
            clear hO1 hTr hbT
            go_wp2_with fail
            refine HO1.out.mono ?_
            rintro e w2 ⟨A2, c2, rfl, hs2, hc2, hm2, hb2⟩
            have HB2 := Lib.hid (HBT.out.trans (hb2.mono HBT.out.size))
            have HS2 := Lib.hid hs2
            have hO2 := HOF.out [] none 0 w2 HB2.out (TreeAt.nil _ _ _ (Nat.zero_le _)) ⟨Nat.zero_le _, fun x hx => by cases hx⟩ (by omega)
            rw [show flsX [] = [] from rfl, ofT_bare s.data.toList HR.out] at hO2
            unfold TextsPost at hO2
            simp only [List.length_nil] at hO2
            have HO2 := Lib.hid hO2
            have hbx2 := hb2
            clear hO2 hs2 hb2 hcv
            go_wp2_with fail
            refine HO2.out.mono ?_
            rintro e w3 ⟨A3, c3, rfl, _, _, _, hb3⟩
            have HB3 := Lib.hid (HB2.out.trans (hb3.mono HB2.out.size))
            have hT3 := HT1.out.below ((one_tree w1 B (by omega)).2)
            have hb1w := (one_tree w1 B (by omega)).2
            have hs3 := HS2.out.below hb3
            have hT4 : StrsAt w3 A6 K := (hT3.at_.below hbx2).below hb3
            have HSM := Lib.hid (sametexts_any K K A2 A6 c2 c6 w3 hs3 hT4 (by omega) (by omega))
            rw [decide_eq_true rfl] at HSM
            clear hb3 hT3 hb1w hs3 hT4 HO2
            go_wp2_with fail
            refine HSM.out.mono ?_
            rintro e w4 ⟨rfl, hb4⟩
            have HB4 := Lib.hid (HB3.out.trans (hb4.mono HB3.out.size))
            have HKN := Lib.hid (HK.out w4 HB4.out)
            clear hb4 HSM
            go_wp2_with fail
            refine HKN.out.mono ?_
            rintro e w9 ⟨rfl, hb9⟩
            go_wp2_with fail
            go_ret
            exact ⟨rfl, HB4.out.trans (hb9.mono HB4.out.size)⟩
end Go.Proofs.YtioiieammmdilaaGreatDoor
