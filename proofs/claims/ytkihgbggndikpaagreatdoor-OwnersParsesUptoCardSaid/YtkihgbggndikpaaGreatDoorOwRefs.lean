/-
  A REGION WHOSE ORDER IS DRAWN, held by a condition that its LAST operation may break: what only reads is taken first, the last one waits for all. No program is named here. · The document's own words of a line, its has, its named. · The document's own Add: a text into a row, where it rises. · The document's own Parse.
-/
import Derived.OrdersHeld
import Derived.WalkKit
import Derived.Below
import Derived.Test.YtkihgbggndikpaaGreatDoorOwIs
import Derived.Test.YtkihgbggndikpaaGreatDoorRefGlob
import Derived.Test.YtkihgbggndikpaaGreatDoorOwParse
import Derived.Test.YtkihgbggndikpaaGreatDoorOwGather
import Derived.BigRegion
import Derived.BigQuiet
import Derived.Deep.RegionHeld3
namespace Go.Proofs.YtkihgbggndikpaaGreatDoor
open Go

section
variable {P : Program} {ops : Array Oper} {Q : Exit → Act → World → Prop} {md : Region.Mode} {S : World → Prop} {L : Nat}

/-- Whatever order is picked from here on; behind each operation but number L the condition holds. -/
def wpAnyL (P : Program) (md : Region.Mode) (ops : Array Oper) (Q : Exit → Act → World → Prop) (S : World → Prop) (L : Nat) : Nat → Array Bool → Act → World → Prop
  | 0, listed, a, w => Region.ready md ops listed = [] ∧ Q .normal a w
  | fuel + 1, listed, a, w =>
    (Region.ready md ops listed = [] → Q .normal a w) ∧
    ∀ i ∈ Region.ready md ops listed, wpOp P ops Q i (fun a' w' => (i ≠ L → S w') ∧ wpAnyL P md ops Q S L fuel (listed.setIfInBounds i true) a' w') a w
theorem wpAny_of_last : ∀ (fuel : Nat) (listed : Array Bool) (a : Act) (w : World), wpAnyL P md ops Q S L fuel listed a w → wpAny P md ops Q fuel listed a w
  | 0, _, _, _, h => h
  | fuel + 1, _, _, _, h => ⟨h.1, fun i hi => wpOp_mono (fun a' w' h' => wpAny_of_last fuel _ a' w' h'.2) (h.2 i hi)⟩

/-- Number L waits for number i. -/
def waitsFor (md : Region.Mode) (ops : Array Oper) (L i : Nat) : Bool := match ops[L]? with | some o => o.after.toList.any (fun e => Region.binds md e && e.on == i) | none => false

/-- What yields its value under the condition, and for which number L waits, may be taken first. -/
theorem wpAnyL_first {i : Nat} {oi : Oper} {v : Value} (hi : ops[i]? = some oi) (hsel : ∀ (j : Nat) (o : Oper) cs b, ops[j]? = some o → o.op ≠ .select cs b) (hL : waitsFor md ops L i = true)
    (hQ : ∀ c a w, Q (.panic c) (a.put oi.dst v) w → Q (.panic c) a w) :
    ∀ (fuel : Nat) (listed : Array Bool) (a : Act) (w : World), listed.size = ops.size →
      (∀ j oj, ops[j]? = some oj → j ≠ i → listed.getD j true = false → (∀ e ∈ oj.after, Region.binds md e = true → e.on ≠ i) → oi.apart ops oj = true) →
      i ∈ Region.ready md ops listed → YieldsIf P ops S oi v a → S w →
      wpAnyL P md ops Q S L fuel (listed.setIfInBounds i true) (a.put oi.dst v) w → wpAnyL P md ops Q S L (fuel + 1) listed a w := by
  have key : ∀ (listed : Array Bool), listed.size = ops.size → ∀ j, j ∈ Region.ready md ops listed → i ∈ Region.ready md ops listed → j ≠ i → j ≠ L := by
    intro listed hsz j hj hr hji e
    subst e
    obtain ⟨_, o, ho, hall⟩ := mem_ready.1 hj
    unfold waitsFor at hL
    rw [ho] at hL
    simp only [List.any_eq_true, Bool.and_eq_true, beq_iff_eq] at hL
    obtain ⟨e, he, hb, rfl⟩ := hL
    have h1 := hall e (by simpa using he) hb
    obtain ⟨h0, o', ho', _⟩ := mem_ready.1 hr
    have hlt : e.on < listed.size := by rw [hsz]; exact (Array.getElem?_eq_some_iff.1 ho').1
    simp [hlt] at h0 h1
    rw [h0] at h1; cases h1
  intro fuel
  induction fuel with
  | zero =>
    intro listed a w hsz _ hr hy hS H
    refine ⟨fun h => (by rw [h] at hr; cases hr), fun j hj => ?_⟩
    by_cases hji : j = i
    · subst hji; exact hy.wpOp hi hS ⟨fun _ => hS, H⟩
    · have := ready_mono hj hji
      rw [H.1] at this
      cases this
  | succ fuel ih =>
    intro listed a w hsz hfree hr hy hS H
    refine ⟨fun h => (by rw [h] at hr; cases hr), fun j hj => ?_⟩
    by_cases hji : j = i
    · subst hji; exact hy.wpOp hi hS ⟨fun _ => hS, H⟩
    · have hjL := key listed hsz j hj hr hji
      have h1 := H.2 j (ready_mono hj hji)
      obtain ⟨hjun, oj, hoj, hall⟩ := mem_ready.1 hj
      have hnot : ∀ e ∈ oj.after, Region.binds md e = true → e.on ≠ i := fun e he hb heq => by
        have h1 := hall e he hb
        have h0 := (mem_ready.1 hr).1
        rw [heq] at h1
        have hlt : i < listed.size := by rw [hsz]; exact (Array.getElem?_eq_some_iff.1 hi).1
        simp [hlt] at h0 h1
        rw [h0] at h1; cases h1
      have h2 := wpOp_putIf hoj (hfree j oj hoj hji hjun hnot) (fun cs b => hsel i oi cs b hi) (fun cs b => hsel j oj cs b hoj) hQ hy h1
      have hfree' : ∀ k ok, ops[k]? = some ok → k ≠ i → (listed.setIfInBounds j true).getD k true = false →
          (∀ e ∈ ok.after, Region.binds md e = true → e.on ≠ i) → oi.apart ops ok = true := fun k ok hk hki hun hno => by
        refine hfree k ok hk hki ?_ hno
        by_cases hjk : j = k
        · subst hjk; exact hjun
        · rw [getD_set_ne true hjk] at hun; exact hun
      refine wpOp_mono (fun a' w' h3 => ⟨h3.2.1, ih (listed.setIfInBounds j true) a' w' (by rw [Array.size_setIfInBounds]; exact hsz) hfree' (ready_mono hr (Ne.symm hji)) h3.1 (h3.2.1 hjL) ?_⟩) h2
      rw [Array.setIfInBounds_comm _ _ hji]
      exact h3.2.2

theorem wpAnyL_take {i : Nat} {oi : Oper} {v : Value} {fuel : Nat} {listed : Array Bool} {a : Act} {w : World} (hi : ops[i]? = some oi)
    (hs : Region.noSelect ops = true) (hf : Region.free md ops listed i = true) (hr : (Region.ready md ops listed).contains i = true) (hL : waitsFor md ops L i = true) (hz : (listed.size == ops.size) = true)
    (hQ : ∀ c a w, Q (.panic c) (a.put oi.dst v) w → Q (.panic c) a w) (hS : S w) (hy : YieldsIf P ops S oi v a)
    (h : wpAnyL P md ops Q S L fuel (listed.setIfInBounds i true) (a.put oi.dst v) w) : wpAnyL P md ops Q S L (fuel + 1) listed a w :=
  wpAnyL_first hi (Region.noSelect_spec hs) hL hQ fuel listed a w (by simpa using hz) (Region.free_spec hi hf) (by simpa using hr) hy hS h
/-- One alone may come up. -/
theorem wpAnyL_one {i : Nat} {o : Oper} {fuel : Nat} {listed : Array Bool} {a : Act} {w : World} (hr : Region.ready md ops listed = [i]) (hi : ops[i]? = some o) (hg : o.guard = none)
    (h : ∀ K : Act → World → Prop, Go.RowKit.Hid (∀ a' w', (i ≠ L → S w') → wpAnyL P md ops Q S L fuel (listed.setIfInBounds i true) a' w' → K a' w') → o.wp P a w K Q) : wpAnyL P md ops Q S L (fuel + 1) listed a w := by
  refine ⟨fun h0 => (by rw [h0] at hr; cases hr), fun j hj => ?_⟩
  rw [hr] at hj
  obtain rfl : j = i := by simpa using hj
  unfold wpOp
  simp only [hi, Region.wanted, hg, if_true]
  exact .inl (h _ fun a' w' h1 h2 => ⟨h1, h2⟩)
theorem wpAnyL_done {listed : Array Bool} {a : Act} {w : World} (hr : Region.ready md ops listed = []) (h : Q .normal a w) : ∀ fuel, wpAnyL P md ops Q S L fuel listed a w
  | 0 => ⟨hr, h⟩
  | _ + 1 => ⟨fun _ => h, by rw [hr]; simp⟩
theorem wp_region_last (S : World → Prop) (L : Nat) {id : Nat} {a : Act} {w : World} (hm : P.follows .mixedOrders = true)
    (h : wpAnyL P .any ops Q S L ops.size (Array.replicate ops.size false) a w.drew) : (Code.region id ops true).wp P Q a w :=
  wp_region_any hm (wpAny_of_last _ _ _ _ h)
end
end Go.Proofs.YtkihgbggndikpaaGreatDoor
namespace Go.Proofs.YtkihgbggndikpaaGreatDoor
open Go Go.RowKit Go.Shelf Go.Proofs
attribute [local go_sem] Oper.semAt_some

theorem split_head (c : UInt8) : ∀ l : Bs, (splitL c l)[0]? = some (l.takeWhile (fun b => b != c))
  | [] => rfl
  | b :: r => by
    have ih := split_head c r
    unfold splitL
    by_cases h : (b == c) = true
    · rw [if_pos h, List.takeWhile_cons, if_neg (by rw [beq_iff_eq] at h; simp [h])]; rfl
    · rw [if_neg h, List.takeWhile_cons, if_pos (by simpa using h)]
      cases e : splitL c r with
      | nil => exact absurd e (splitL_ne c r)
      | cons p ps =>
        rw [e] at ih
        simp only [List.getElem?_cons_zero, Option.some.injEq] at ih
        simp [ih]
def keptW (l : List Bs) : List Bs := l.filter (fun p => !p.isEmpty)
theorem keptW_snoc (l : List Bs) (p : Bs) : keptW (l ++ [p]) = if p.isEmpty then keptW l else keptW l ++ [p] := by
  unfold keptW
  rw [List.filter_append]
  cases p <;> simp
theorem keptW_len (l : List Bs) : (keptW l).length ≤ l.length := List.length_filter_le _ _
theorem strVs_one (P : List Bs) (p : Bs) : strVs (P ++ [p]) = strVs P ++ [.string (mkB p)] := by simp [strVs, strV]

set_option maxRecDepth 100000 in
set_option maxHeartbeats 4000000 in
theorem refwords_any (s : ByteArray) (w : World) (hs : s.size ≤ 1000000) :
    Calls Tryz.prog 41 #[.string s] w (WordsPost w (wordsL s.data.toList)) := by
  obtain ⟨i0, hi, hz0, hz1, hz2⟩ := info_parts string_info
  have hl : s.data.toList.length = s.size := Array.length_toList
  have HW : Hid (wordsL s.data.toList = keptW (splitL 32 (cutR s.data.toList))) := rfl
  have hcl := cutR_le s.data.toList
  obtain ⟨T, hT⟩ : ∃ T, mkB (cutR s.data.toList) = T := ⟨_, rfl⟩
  have hTl : T.data.toList = cutR s.data.toList := by rw [← hT, mkB_data]
  have hTs : T.size ≤ 1000000 := by rw [← hT, mkB_size]; omega
  have h0 : (splitL 35 s.data.toList)[0]? = some (cutR s.data.toList) := split_head 35 _
  have hne := splitL_ne 35 s.data.toList
  obtain ⟨L, hL⟩ : ∃ L, splitL 35 s.data.toList = L := ⟨_, rfl⟩
  have HS := Lib.hid (refsplit_any s 35 w (by omega))
  rw [hL] at h0 HS hne
  have H0 := Lib.hid h0
  have HT := Lib.hid hT
  have HTL := Lib.hid hTl
  have hne0 : L.length ≠ 0 := fun e => hne (List.eq_nil_of_length_eq_zero e)
  clear h0 hne hL hcl hTl hT hl
  go_enter Tryz.func41, Tryz.ntmps41
  go_wp2_with fail
  refine HS.out.mono ?_
  rintro e w1 ⟨v, rfl, hrow, hb1⟩
  obtain ⟨g, cap, rfl, hr, _, _⟩ := names_row hrow hne0
  obtain ⟨n, hn⟩ : ∃ n, L.length = n + 1 := ⟨L.length - 1, by omega⟩
  have c1 : w1.cell? ⟨g, 0, none⟩ = some (.string T) := by rw [← HT.out]; exact hr 0 _ H0.out
  rw [hn]
  have HS2 := Lib.hid (refsplit_any T 32 w1 (by omega))
  rw [HTL.out] at HS2
  have hsm := splitL_length 32 (cutR s.data.toList)
  have hcs : (cutR s.data.toList).length ≤ 1000000 := by rw [← HTL.out, Array.length_toList]; exact hTs
  obtain ⟨M, hM⟩ : ∃ M, splitL 32 (cutR s.data.toList) = M := ⟨_, rfl⟩
  have hne2 := splitL_ne 32 (cutR s.data.toList)
  rw [hM] at HS2 HW hsm hne2
  have hml : M.length ≤ 1000001 := by omega
  have hm0 : M.length ≠ 0 := fun e => hne2 (List.eq_nil_of_length_eq_zero e)
  have HB1 := Lib.hid hb1
  clear hrow hr hb1 hM hsm hcs hne2 HS
  go_wp2_with fail
  refine HS2.out.mono ?_
  rintro e w2 ⟨v2, rfl, hrow2, hb2⟩
  obtain ⟨g2, cap2, rfl, hr2, hg1, hg2⟩ := names_row hrow2 hm0
  have HR2 := Lib.hid hr2
  have HB2 := Lib.hid (HB1.out.trans (hb2.mono HB1.out.size))
  obtain ⟨m, hm⟩ : ∃ m, M.length = m := ⟨_, rfl⟩
  rw [hm]
  rw [hm] at hml
  have HM := Lib.hid hm
  clear hrow2 hr2 hb2 HS2 HB1 hm hm0
  go_wp2_with fail
  go_loopw [4, 5] (fun v i wr => ∃ k : Nat, k ≤ m ∧ i = .int .i64 k ∧ wr.ownsRow w2.heap.size 9 1 v (keptW (M.take k)).length (strVs (keptW (M.take k))) ∧ Below w2.heap.size w2 wr) (fun _ i _ => m - (intOf i).toNat)
  case atStart => exact ⟨0, Nat.zero_le _, rfl, World.ownsRow_nil _ _ _ _, Below.refl _ _⟩
  case round =>
    obtain ⟨k, hk, rfl, hrow, hbr⟩ := hrel
    have hW : w2.heap.size ≤ wr.heap.size := hbr.size
    by_cases h1 : k < m
    · have hkl : k < M.length := by have := HM.out; omega
      obtain ⟨p, hp⟩ : ∃ p, M[k]? = some p := ⟨_, List.getElem?_eq_getElem hkl⟩
      have hc := (HR2.out.below hbr hg2) k p hp
      have hsn : keptW (M.take (k + 1)) = if p.isEmpty then keptW (M.take k) else keptW (M.take k) ++ [p] := by
        rw [List.take_add_one, hp]; exact keptW_snoc _ _
      have HSN := Lib.hid hsn
      have hkk := Nat.le_trans (keptW_len (M.take k)) (List.length_take_le k M)
      clear hsn hp hkl
      by_cases hpe : p = []
      · subst hpe
        have g1 : (!(mkB []).toList.isEmpty) = false := by rw [ByteArray.toList_eq, mkB_data]; rfl
        have g2 : (mkB []).toList.isEmpty = true := by rw [ByteArray.toList_eq, mkB_data]; rfl
        have g3 : (mkB []).toList = [] := by rw [ByteArray.toList_eq, mkB_data]
        go_wp2_with fail
        go_roundw
        case rel => exact ⟨k + 1, by omega, by go_num, by rw [HSN.out]; exact hrow, hbr⟩
        case measure => simp [intOf]; omega
      · have g1 : (!(mkB p).toList.isEmpty) = true := by rw [ByteArray.toList_eq, mkB_data]; cases p with | nil => exact absurd rfl hpe | cons _ _ => rfl
        have g2 : (mkB p).toList.isEmpty = false := by rw [ByteArray.toList_eq, mkB_data]; cases p with | nil => exact absurd rfl hpe | cons _ _ => rfl
        have g4 : p.isEmpty = false := by cases p with | nil => exact absurd rfl hpe | cons _ _ => rfl
        have HP := Lib.hid g4
        clear g4 hpe
        go_wp2_with (at_builtin; go_loud (refine wpList_append_own _ rfl _ _ 39 rfl w2.heap.size 9 i0 (.string ⟨#[]⟩) 1 16 Tryz.underlying39 hi hz0 hz1 hz2 rfl (by decide) _ _ _ rfl (hrow.alloc _) ⟨wr.heap.size, 0, none⟩ 1 1 [.string (mkB p)] rfl rfl (cell_one_new _ _ _) (by simp [Value.oneCell']) (by unfold maxLen; omega) (by omega) (by simp; omega) ?_; intro v' w3 hown' hgrow _))
        go_roundw
        case rel =>
          refine ⟨k + 1, by omega, by go_num, ?_, hbr.trans (((Below.refl _ _).alloc hW _).grown hgrow (by simp; omega) fun j ej => (row_ge hrow ej).1)⟩
          rw [HSN.out, if_neg (by rw [HP.out]; simp), List.length_append, strVs_one]; exact hown'
        case measure => simp [intOf]; omega
    · have h2 : k = M.length := by have := HM.out; omega
      subst h2
      rw [List.take_of_length_le (Nat.le_refl _)] at hrow
      obtain ⟨A, c, hv, hst, hc1, hc2⟩ := strsT_own hrow rfl
      subst hv
      have HST := Lib.hid hst
      clear hst hrow
      go_wp2_with fail
      go_ret
      exact ⟨A, c, by rw [HW.out]; rfl, by rw [HW.out]; exact HST.out.lower HB2.out.size, by rw [HW.out]; exact hc1, hc2, HB2.out.trans (hbr.mono HB2.out.size)⟩

theorem split_many (c : UInt8) : ∀ l : Bs, decide (1 < (splitL c l).length) = l.contains c
  | [] => rfl
  | b :: r => by
    have ih := split_many c r
    have hne := splitL_ne c r
    unfold splitL
    by_cases h : (b == c) = true
    · rw [if_pos h]
      obtain rfl : b = c := by simpa using h
      cases e : splitL b r with
      | nil => exact absurd e hne
      | cons p ps => simp
    · rw [if_neg h]
      cases e : splitL c r with
      | nil => exact absurd e hne
      | cons p ps =>
        rw [e] at ih
        rw [List.contains_cons, ← ih]
        have : (c == b) = false := by rw [beq_eq_false_iff_ne]; intro e2; subst e2; simp at h
        rw [this]; rfl
set_option maxHeartbeats 2000000 in
theorem refhas_any (s : ByteArray) (w : World) (hs : s.size ≤ 1000000) :
    Calls Tryz.prog 42 #[.string s] w (BoolPost (s.data.toList.contains 47) w) := by
  have HM := Lib.hid (split_many 47 s.data.toList)
  obtain ⟨L, hL⟩ : ∃ L, splitL 47 s.data.toList = L := ⟨_, rfl⟩
  have HS := Lib.hid (refsplit_any s 47 w (by omega))
  rw [hL] at HM HS
  clear hL
  go_enter Tryz.func42, Tryz.ntmps42
  go_wp2_with fail
  refine HS.out.mono ?_
  rintro e w1 ⟨v, rfl, hrow, hb1⟩
  obtain ⟨A, c, rfl, _, _⟩ := ownsRow_slice hrow
  have HB := Lib.hid hb1
  clear hrow hb1
  go_wp2_with fail
  go_ret
  exact ⟨ret_bool (by rw [← HM.out, Bool.eq_iff_iff]; simp; omega), HB.out⟩

set_option maxRecDepth 100000 in
set_option maxHeartbeats 4000000 in
theorem refallnamed_any (l : List Bs) (A : Option Addr) (c : Nat) (w : World) (h : WordsAt w A c l) :
    Calls Tryz.prog 43 #[.slice A l.length c] w fun e w' => e = .returned (.bool (l.all namedB && decide (0 < l.length))) ∧ w' = w := by
  have hl := h.len
  have HH := Lib.hid h; clear h
  obtain ⟨n, hn⟩ : ∃ n, l.length = n := ⟨_, rfl⟩
  rw [hn]
  rw [hn] at hl
  have HN := Lib.hid hn
  clear hn
  go_enter Tryz.func43, Tryz.ntmps43
  go_wp2_with fail
  go_loop [3] (fun i => ∃ k : Nat, k ≤ n ∧ i = .int .i64 k ∧ Hid ((l.take k).all namedB = true)) (fun i => n - (intOf i).toNat)
  case atStart => exact ⟨0, Nat.zero_le _, rfl, rfl⟩
  case round =>
    obtain ⟨k, hk, rfl, hall⟩ := hrel
    by_cases hlt : k < n
    · obtain ⟨x, hx⟩ : ∃ x, l[k]? = some x := ⟨_, List.getElem?_eq_getElem (by have := HN.out; omega)⟩
      obtain ⟨g, o, hA, hr⟩ := HH.out.at_ (by have := HN.out; omega)
      subst hA
      have c1 := hr k x hx
      have hcall := refnamed_any (mkB x) w (by rw [mkB_size]; have := HH.out.each x (List.mem_of_getElem? hx); unfold maxLen; omega)
      rw [mkB_data] at hcall
      have hsn : (l.take (k + 1)).all namedB = ((l.take k).all namedB && namedB x) := by rw [List.take_add_one, hx, List.all_append]; simp
      rw [hall.out, Bool.true_and] at hsn
      have HSN := Lib.hid hsn
      have HMX := Lib.hid (List.mem_of_getElem? hx)
      clear hx hr hsn
      cases hq : namedB x with
      | true =>
        rw [hq] at hcall
        have HQ := Lib.hid hq
        have HC := Lib.hid hcall
        clear hq hcall
        go_wp2_with fail
        refine HC.out.mono ?_
        rintro e w' ⟨rfl, hw⟩
        have hw := hw.symm
        subst hw
        go_wp2_with fail
        go_round
        case rel => exact ⟨k + 1, by omega, by go_num, by unfold Hid; rw [HSN.out]; exact HQ.out⟩
        case measure => simp [intOf]; omega
      | false =>
        rw [hq] at hcall
        have hf : l.all namedB = false := by
          rw [Bool.eq_false_iff]; intro ha
          have := List.all_eq_true.1 ha _ HMX.out
          rw [this] at hq; cases hq
        have HF := Lib.hid hf
        have HC := Lib.hid hcall
        clear hq hcall hf
        go_wp2_with fail
        refine HC.out.mono ?_
        rintro e w' ⟨rfl, hw⟩
        have hw := hw.symm
        subst hw
        go_wp2_with fail
        go_ret
        exact ⟨ret_bool (by rw [HF.out]; rfl), rfl⟩
    · obtain rfl : k = n := by omega
      have ha : l.all namedB = true := by
        have := hall.out
        rwa [List.take_of_length_le (by have := HN.out; omega)] at this
      have HA := Lib.hid ha
      clear ha
      go_wp2_with fail
      go_ret
      exact ⟨ret_bool (by rw [HA.out, Bool.true_and]), rfl⟩
end Go.Proofs.YtkihgbggndikpaaGreatDoor
namespace Go.Proofs.YtkihgbggndikpaaGreatDoor
open Go Go.RowKit Go.Shelf Go.Proofs
attribute [local go_sem] Oper.semAt_some

theorem addS_at (s : Bs) : ∀ (l : List Bs) (k : Nat), (∀ j y, j < k → l[j]? = some y → ltB y s = true) → k ≤ l.length → (∀ y, l[k]? = some y → ltB y s = false) → addS l s = if l[k]? = some s then l else l.take k ++ s :: l.drop k
  | [], k, _, hk, _ => by
    obtain rfl : k = 0 := by simpa using hk
    simp [addS]
  | x :: r, 0, _, _, h2 => by
    have := h2 x rfl
    unfold addS
    rw [if_neg (by rw [this]; simp)]
    by_cases e : x = s
    · subst e; simp
    · rw [if_neg (by simpa using e)]
      simp [e]
  | x :: r, k + 1, h1, hk, h2 => by
    have hx := h1 0 x (by omega) rfl
    have ih := addS_at s r k (fun j y hj hy => h1 (j + 1) y (by omega) (by simpa using hy)) (by simpa using hk) (fun y hy => h2 y (by simpa using hy))
    unfold addS
    rw [if_pos hx, ih]
    simp only [List.getElem?_cons_succ, List.take_succ_cons, List.drop_succ_cons]
    split <;> rfl
theorem addS_len (s : Bs) : ∀ l : List Bs, (addS l s).length ≤ l.length + 1
  | [] => by simp [addS]
  | x :: r => by
    have ih := addS_len s r
    unfold addS
    split
    · simp only [List.length_cons]; omega
    · split
      · simp
      · simp
theorem strVs_append (a b : List Bs) : strVs (a ++ b) = strVs a ++ strVs b := by simp [strVs]
theorem strVs_length (a : List Bs) : (strVs a).length = a.length := by simp [strVs]
theorem run_append_none_s {P : Program} {w : World} (base : Nat) (t ty e : TypeId) (i : TypeInfo) (size c : Nat) (ht : P.underlying t = some (.slice e)) (hi : P.info? e = some i)
    (v : Value) (n : Nat) (xs : List Value) (hown : w.ownsRow base e size v n xs) :
    (Builtin.append_ #[t, t] ty #[v, .slice none 0 c]).run P w = .ok v w := by
  rcases hown.2 with ⟨rfl, rfl⟩ | ⟨g, cap, cur, rfl, _, _, hnc, _⟩
  · simp [Builtin.append_, run_underlying ht, sizeOf, typeInfo, hi, Builtin.lenOf, Builtin.firstCells]
  · simp [Builtin.append_, run_underlying ht, sizeOf, typeInfo, hi, Builtin.lenOf, Builtin.firstCells, hnc, storeCells]
theorem wpList_append_strs {ops : Array Oper} {rest : List Oper} {o : Oper} {a : Act} {w : World} {Q : Exit → Act → World → Prop} (hgd : o.guard = none) (s x : Operand)
    (ho : o.op = .call { callee := .builtin .append, args := #[s, x], argTypes := #[39, 39] })
    (base : Nat) (v : Value) (l m : List Bs) (A : Option Addr) (nl nm c : Nat) (hnl : l.length = nl) (hnm : m.length = nm) (hs : a.eval s = v) (hown : w.ownsRow base 9 1 v nl (strVs l)) (hx : a.eval x = .slice A nm c)
    (hm : StrsAt w A m) (hl : l.length + m.length ≤ 2000000000000) (hbase : base ≤ w.heap.size)
    (h : ∀ v' w', w'.ownsRow base 9 1 v' (nl + nm) (strVs (l ++ m)) → w.grownBy w' v.ownBlock → wpList Tryz.prog ops Q rest (a.put o.dst v') w') : wpList Tryz.prog ops Q (o :: rest) a w := by
  subst hnm
  subst hnl
  obtain ⟨i0, hi, hz0, hz1, hz2⟩ := info_parts string_info
  cases A with
  | none =>
    have h0 : m.length = 0 := by
      by_cases e : m.length = 0
      · exact e
      · obtain ⟨g, o, hh, _⟩ := hm (by omega); cases hh
    obtain rfl : m = [] := List.eq_nil_of_length_eq_zero h0
    refine wpList_plain hgd fun K hK => ?_
    have hrun := run_append_none_s (P := Tryz.prog) (w := w) base 39 o.type 9 i0 1 c Tryz.underlying39 hi v l.length (strVs l) hown
    unfold Oper.wp
    rw [List.length_nil] at hx
    simp [execOp, ho, resolve, invoke, builtin, hs, hx, hrun, Result.andThen]
    refine hK _ _ (h v w ?_ (World.grownBy.refl w _))
    rw [List.append_nil]; exact hown
  | some ad =>
    refine wpList_append_own w hgd s x 39 ho base 9 i0 (.string ⟨#[]⟩) 1 16 Tryz.underlying39 hi hz0 hz1 hz2 rfl (by decide) v l.length (strVs l) hs hown ad m.length c (strVs m) hx (by rw [strVs_length]; omega) ?_ ?_ (by unfold maxLen; omega) (by omega) hbase fun v' w' h1 h2 _ => h v' w' ?_ h2
    · intro j u hj
      have hjl := (List.getElem?_eq_some_iff.1 hj).1
      rw [strVs_length] at hjl
      obtain ⟨g, o, hh, hr⟩ := hm (by omega)
      cases hh
      obtain ⟨y, hy⟩ : ∃ y, m[j]? = some y := ⟨_, List.getElem?_eq_getElem hjl⟩
      rw [Go.WideShapes.add_plain]
      unfold strVs strV at hj
      rw [List.getElem?_map, hy] at hj
      cases hj
      exact hr j y hy
    · intro u hu
      unfold strVs strV at hu
      obtain ⟨y, _, rfl⟩ := List.mem_map.1 hu
      rfl
    · rw [strVs_append]; exact h1

/-- Texts of a row: where they lie. -/
def TxPost (l : List Bs) (w : World) (e : Ending) (w' : World) : Prop := ∃ A c, e = .returned (.slice A l.length c) ∧ StrsAt w' A l ∧ l.length ≤ c ∧ c ≤ maxLen ∧ Below w.heap.size w w'

theorem StrsAt.take {w : World} {A : Option Addr} {l : List Bs} (h : StrsAt w A l) (k : Nat) : StrsAt w A (l.take k) := fun hn => by
  rw [List.length_take] at hn
  obtain ⟨g, o, e, hc⟩ := h (by omega)
  refine ⟨g, o, e, fun i p hp => hc i p ?_⟩
  rw [List.getElem?_take] at hp
  split at hp
  · exact hp
  · cases hp
theorem StrsAt.drop {w : World} {g o : Nat} {l : List Bs} (h : StrsAt w (some ⟨g, o, none⟩) l) (k : Nat) : StrsAt w (some ⟨g, o + k, none⟩) (l.drop k) := fun hn => by
  rw [List.length_drop] at hn
  obtain ⟨g', o', e, hc⟩ := h (by omega)
  simp only [Option.some.injEq, Addr.mk.injEq] at e
  obtain ⟨rfl, rfl, _⟩ := e
  refine ⟨g, o + k, rfl, fun i p hp => ?_⟩
  rw [List.getElem?_drop] at hp
  rw [show o + k + i = o + (k + i) from by omega]
  exact hc _ p hp
theorem below_grow {B : Nat} {w w' : World} {v : Value} {n : Nat} {xs : List Value} (hown : w.ownsRow B 9 1 v n xs) (hg : w.grownBy w' v.ownBlock) (hB : B ≤ w.heap.size) : Below B w w' :=
  ⟨hg.os, hg.tape, hg.output, hg.size, fun j hj => hg.block j (Nat.lt_of_lt_of_le hj hB) (fun e => by have := (row_ge hown e.symm).1; omega)⟩
theorem one_at (w : World) (s : ByteArray) : StrsAt (w.alloc (.cells #[.string s] 9)) (some ⟨w.heap.size, 0, none⟩) [s.data.toList] := fun _ => ⟨_, 0, rfl, fun i p hp => by
  match i, hp with
  | 0, hp => cases hp; rw [data_mkB]; exact cell_of_row _ _ 0 _ _ _ (heap_alloc_new w _)
  | i + 1, hp => simp at hp⟩

set_option maxRecDepth 100000 in
set_option maxHeartbeats 8000000 in
theorem refadd_any (l : List Bs) (A : Option Addr) (c : Nat) (s : ByteArray) (w : World) (h : StrsAt w A l) (hc : l.length ≤ c) (hcm : c ≤ maxLen) (hl : l.length ≤ 1000000000000) (h0 : l.length = 0 → A = none ∧ c = 0) :
    Calls Tryz.prog 34 #[.slice A l.length c, .string s] w (TxPost (addS l s.data.toList) w) := by
  have hat := addS_at s.data.toList l
  obtain ⟨n, hn⟩ : ∃ n, l.length = n := ⟨_, rfl⟩
  rw [hn] at hl hc hat h0 ⊢
  have HN := Lib.hid hn
  have H0 := Lib.hid h0
  have HAT := Lib.hid hat
  have HH := Lib.hid h
  clear hn hat h h0
  go_enter Tryz.func34, Tryz.ntmps34
  go_wp2_with fail
  go_loop [5] (fun i => ∃ k : Nat, k ≤ n ∧ i = .int .i64 k ∧ Hid (∀ j y, j < k → l[j]? = some y → ltB y s.data.toList = true)) (fun i => n - (intOf i).toNat)
  case atStart => exact ⟨0, Nat.zero_le _, rfl, fun j y hj => absurd hj (Nat.not_lt_zero _)⟩
  case round =>
    obtain ⟨k, hk, rfl, hall⟩ := hrel
    by_cases hlt : k < n
    · obtain ⟨x, hx⟩ : ∃ x, l[k]? = some x := ⟨_, List.getElem?_eq_getElem (by have := HN.out; omega)⟩
      obtain ⟨g, o, hA, hr⟩ := HH.out (by have := HN.out; omega)
      subst hA
      have c1 := hr k x hx
      have HXK := Lib.hid hx
      cases hq : ltB x s.data.toList with
      | true =>
        have q1 : Op.bytesLess (mkB x).toList s.toList = true := by rw [ByteArray.toList_eq, ByteArray.toList_eq, mkB_data]; exact hq
        have HQ := Lib.hid hq
        clear hx hq hr
        go_wp2_with fail
        go_round
        case rel =>
          refine ⟨k + 1, by omega, by go_num, fun j y hj hy => ?_⟩
          by_cases e : j = k
          · subst e
            have := HXK.out.symm.trans hy
            cases this; exact HQ.out
          · exact hall.out j y (by omega) hy
        case measure => simp [intOf]; omega
      | false =>
        have q1 : Op.bytesLess (mkB x).toList s.toList = false := by rw [ByteArray.toList_eq, ByteArray.toList_eq, mkB_data]; exact hq
        have hadd := HAT.out k hall.out hk (fun y hy => by rw [hx] at hy; cases hy; exact hq)
        rw [hx] at hadd
        by_cases e : x = s.data.toList
        · subst e
          rw [if_pos rfl] at hadd
          have q2 : (mkB s.data.toList).toList = s.toList := by rw [data_mkB]
          rw [data_mkB] at q1 c1
          have HADD := Lib.hid hadd
          clear hadd hr hq hx
          go_wp2_with fail
          go_ret
          exact ⟨_, c, by rw [HADD.out, HN.out]; rfl, by rw [HADD.out]; exact HH.out, by rw [HADD.out, HN.out]; exact hc, hcm, Below.refl _ _⟩
        · rw [if_neg (by simpa using e)] at hadd
          have q2 : ((mkB x).toList == s.toList) = false := by rw [ByteArray.toList_eq, ByteArray.toList_eq, mkB_data, beq_eq_false_iff_ne]; exact e
          obtain ⟨P, hP⟩ : ∃ P, l.take k = P := ⟨_, rfl⟩
          obtain ⟨R, hR⟩ : ∃ R, l.drop k = R := ⟨_, rfl⟩
          have hPl : P.length = k := by rw [← hP, List.length_take, HN.out]; omega
          have hRl : R.length = n - k := by rw [← hR, List.length_drop, HN.out]
          have hT1 := HH.out.take k
          rw [hP, hR] at hadd
          rw [hP] at hT1
          have HADD := Lib.hid hadd
          have HT1 := Lib.hid hT1
          have HPL := Lib.hid hPl
          have HRL := Lib.hid hRl
          have HT2 : Hid (StrsAt w (some ⟨g, o + k, none⟩) R) := by unfold Hid; rw [← hR]; exact HH.out.drop k
          have e1 : (k : Int) ≤ (n : Int) := by omega
          have e2 : (k : Int) ≤ (c : Int) := by omega
          have e3 : (n : Int) ≤ (c : Int) := by omega
          have e4 : c ≠ k := by omega
          unfold maxLen at hcm
          clear hadd hr hq hx HH HAT hall hP hR hPl hRl hT1
          go_upto_region 8 with (at_builtin; go_loud (refine wpList_append_strs rfl _ _ rfl w.heap.size (.slice none 0 0) [] P _ 0 k _ rfl HPL.out rfl (World.ownsRow_nil _ _ _ _) rfl HT1.out (by rw [HPL.out, List.length_nil]; omega) (Nat.le_refl _) ?_; intro v3 w3 hown3 hg3; have hb3 := below_grow (World.ownsRow_nil _ _ _ _) hg3 (Nat.le_refl _); rw [List.nil_append, Nat.zero_add] at hown3; obtain ⟨A3, c3, hv3, _, _⟩ := ownsRow_slice hown3; subst hv3; have HO3 := Lib.hid hown3; have HB3 := Lib.hid hb3; clear hown3 hb3 hg3))
          go_upto_region 9 with (at_builtin; go_loud (refine wpList_append_strs rfl _ _ rfl w.heap.size (.slice A3 k c3) P [s.data.toList] (some ⟨w3.heap.size, 0, none⟩) k 1 1 HPL.out rfl rfl (HO3.out.alloc _) rfl (one_at w3 s) (by have := HPL.out; simp only [List.length_cons, List.length_nil]; omega) (by rw [World.size_alloc]; have := HB3.out.size; omega) ?_; intro v4 w4 hown4 hg4; have hb4 := HB3.out.trans (((Below.refl _ _).alloc HB3.out.size _).trans (below_grow (HO3.out.alloc _) hg4 (by rw [World.size_alloc]; have := HB3.out.size; omega))); obtain ⟨A4, c4, hv4, _, _⟩ := ownsRow_slice hown4; subst hv4; have HO4 := Lib.hid hown4; have HB4 := Lib.hid hb4; clear hown4 hb4 hg4))
          go_upto_region 10 with (at_builtin; go_loud (refine wpList_append_strs rfl _ _ rfl w.heap.size (.slice A4 (k + 1) c4) (P ++ [s.data.toList]) R _ (k + 1) (n - k) _ (by rw [List.length_append, HPL.out]; rfl) HRL.out rfl HO4.out rfl (HT2.out.below HB4.out) (by have := HPL.out; have := HRL.out; simp only [List.length_append, List.length_cons, List.length_nil]; omega) HB4.out.size ?_; intro v5 w5 hown5 hg5; have hb5 := HB4.out.trans (below_grow HO4.out hg5 HB4.out.size); rw [List.append_assoc, List.singleton_append] at hown5; obtain ⟨A5, c5, hv5, hst5, hc5, hcm5⟩ := strsT_own hown5 (by have := HPL.out; have := HRL.out; simp only [List.length_append, List.length_cons]; omega); subst hv5; have HST5 := Lib.hid hst5; have HB5 := Lib.hid hb5; have HC5 := Lib.hid hc5; clear hown5 hb5 hg5 hc5))
          go_wp2_with fail
          go_ret
          exact ⟨A5, c5, by rw [HADD.out, List.length_append, List.length_cons]; rfl, by rw [HADD.out]; exact HST5.out.at_, by rw [HADD.out]; exact HC5.out, hcm5, HB5.out⟩
    · obtain rfl : k = n := by omega
      have hadd := HAT.out k hall.out hk (fun y hy => by rw [List.getElem?_eq_none (by rw [HN.out]; exact Nat.le_refl _)] at hy; cases hy)
      rw [if_neg (by rw [List.getElem?_eq_none (by rw [HN.out]; exact Nat.le_refl _)]; simp)] at hadd
      obtain ⟨P, hP⟩ : ∃ P, l.take k = P := ⟨_, rfl⟩
      obtain ⟨R, hR⟩ : ∃ R, l.drop k = R := ⟨_, rfl⟩
      have hPl : P.length = k := by rw [← hP, List.length_take, HN.out]; omega
      have hRl : R.length = 0 := by rw [← hR, List.length_drop, HN.out]; omega
      have hT1 := HH.out.take k
      rw [hP, hR] at hadd
      rw [hP] at hT1
      have HADD := Lib.hid hadd
      have HT1 := Lib.hid hT1
      have HPL := Lib.hid hPl
      have HRL := Lib.hid hRl
      have hnil : R = [] := List.eq_nil_of_length_eq_zero hRl
      have HNIL : Hid (∀ (W : World) (A : Option Addr), StrsAt W A R) := fun W A => by rw [hnil]; exact StrsAt.nil _ _
      unfold maxLen at hcm
      by_cases hk0 : k = 0
      · subst hk0
        obtain ⟨rfl, rfl⟩ := H0.out rfl
        clear hadd HH HAT hall hnil hP hR hPl hRl hT1
        go_upto_region 8 with (at_builtin; go_loud (refine wpList_append_strs rfl _ _ rfl w.heap.size (.slice none 0 0) [] P _ 0 0 _ rfl HPL.out rfl (World.ownsRow_nil _ _ _ _) rfl HT1.out (by rw [HPL.out, List.length_nil]; omega) (Nat.le_refl _) ?_; intro v3 w3 hown3 hg3; have hb3 := below_grow (World.ownsRow_nil _ _ _ _) hg3 (Nat.le_refl _); rw [List.nil_append] at hown3; obtain ⟨A3, c3, hv3, _, _⟩ := ownsRow_slice hown3; subst hv3; have HO3 := Lib.hid hown3; have HB3 := Lib.hid hb3; clear hown3 hb3 hg3))
        go_upto_region 9 with (at_builtin; go_loud (refine wpList_append_strs rfl _ _ rfl w.heap.size (.slice A3 0 c3) P [s.data.toList] (some ⟨w3.heap.size, 0, none⟩) 0 1 1 HPL.out rfl rfl (HO3.out.alloc _) rfl (one_at w3 s) (by have := HPL.out; simp only [List.length_cons, List.length_nil]; omega) (by rw [World.size_alloc]; have := HB3.out.size; omega) ?_; intro v4 w4 hown4 hg4; have hb4 := HB3.out.trans (((Below.refl _ _).alloc HB3.out.size _).trans (below_grow (HO3.out.alloc _) hg4 (by rw [World.size_alloc]; have := HB3.out.size; omega))); obtain ⟨A4, c4, hv4, _, _⟩ := ownsRow_slice hown4; subst hv4; have HO4 := Lib.hid hown4; have HB4 := Lib.hid hb4; clear hown4 hb4 hg4))
        go_upto_region 10 with (at_builtin; go_loud (refine wpList_append_strs rfl _ _ rfl w.heap.size (.slice A4 1 c4) (P ++ [s.data.toList]) R _ 1 (0) _ (by rw [List.length_append, HPL.out]; rfl) HRL.out rfl HO4.out rfl (HNIL.out _ _) (by have := HPL.out; have := HRL.out; simp only [List.length_append, List.length_cons, List.length_nil]; omega) HB4.out.size ?_; intro v5 w5 hown5 hg5; have hb5 := HB4.out.trans (below_grow HO4.out hg5 HB4.out.size); rw [List.append_assoc, List.singleton_append] at hown5; obtain ⟨A5, c5, hv5, hst5, hc5, hcm5⟩ := strsT_own hown5 (by have := HPL.out; have := HRL.out; simp only [List.length_append, List.length_cons]; omega); subst hv5; have HST5 := Lib.hid hst5; have HB5 := Lib.hid hb5; have HC5 := Lib.hid hc5; clear hown5 hb5 hg5 hc5))
        go_wp2_with fail
        go_ret
        exact ⟨A5, c5, by rw [HADD.out, List.length_append, List.length_cons]; rfl, by rw [HADD.out]; exact HST5.out.at_, by rw [HADD.out]; exact HC5.out, hcm5, HB5.out⟩
      · obtain ⟨g, o, hA, _⟩ := HH.out (by rw [HN.out]; omega)
        subst hA
        have e2 : (k : Int) ≤ (c : Int) := by omega
        have e5 : c ≠ 0 := by omega
        clear hadd HH HAT hall hnil hP hR hPl hRl hT1
        by_cases hck : c = k
        · subst hck
          go_upto_region 8 with (at_builtin; go_loud (refine wpList_append_strs rfl _ _ rfl w.heap.size (.slice none 0 0) [] P _ 0 c _ rfl HPL.out rfl (World.ownsRow_nil _ _ _ _) rfl HT1.out (by rw [HPL.out, List.length_nil]; omega) (Nat.le_refl _) ?_; intro v3 w3 hown3 hg3; have hb3 := below_grow (World.ownsRow_nil _ _ _ _) hg3 (Nat.le_refl _); rw [List.nil_append, Nat.zero_add] at hown3; obtain ⟨A3, c3, hv3, _, _⟩ := ownsRow_slice hown3; subst hv3; have HO3 := Lib.hid hown3; have HB3 := Lib.hid hb3; clear hown3 hb3 hg3))
          go_upto_region 9 with (at_builtin; go_loud (refine wpList_append_strs rfl _ _ rfl w.heap.size (.slice A3 c c3) P [s.data.toList] (some ⟨w3.heap.size, 0, none⟩) c 1 1 HPL.out rfl rfl (HO3.out.alloc _) rfl (one_at w3 s) (by have := HPL.out; simp only [List.length_cons, List.length_nil]; omega) (by rw [World.size_alloc]; have := HB3.out.size; omega) ?_; intro v4 w4 hown4 hg4; have hb4 := HB3.out.trans (((Below.refl _ _).alloc HB3.out.size _).trans (below_grow (HO3.out.alloc _) hg4 (by rw [World.size_alloc]; have := HB3.out.size; omega))); obtain ⟨A4, c4, hv4, _, _⟩ := ownsRow_slice hown4; subst hv4; have HO4 := Lib.hid hown4; have HB4 := Lib.hid hb4; clear hown4 hb4 hg4))
          go_upto_region 10 with (at_builtin; go_loud (refine wpList_append_strs rfl _ _ rfl w.heap.size (.slice A4 (c + 1) c4) (P ++ [s.data.toList]) R _ (c + 1) (0) _ (by rw [List.length_append, HPL.out]; rfl) HRL.out rfl HO4.out rfl (HNIL.out _ _) (by have := HPL.out; have := HRL.out; simp only [List.length_append, List.length_cons, List.length_nil]; omega) HB4.out.size ?_; intro v5 w5 hown5 hg5; have hb5 := HB4.out.trans (below_grow HO4.out hg5 HB4.out.size); rw [List.append_assoc, List.singleton_append] at hown5; obtain ⟨A5, c5, hv5, hst5, hc5, hcm5⟩ := strsT_own hown5 (by have := HPL.out; have := HRL.out; simp only [List.length_append, List.length_cons]; omega); subst hv5; have HST5 := Lib.hid hst5; have HB5 := Lib.hid hb5; have HC5 := Lib.hid hc5; clear hown5 hb5 hg5 hc5))
          go_wp2_with fail
          go_ret
          exact ⟨A5, c5, by rw [HADD.out, List.length_append, List.length_cons]; rfl, by rw [HADD.out]; exact HST5.out.at_, by rw [HADD.out]; exact HC5.out, hcm5, HB5.out⟩
        · have e4 : c ≠ k := hck
          go_upto_region 8 with (at_builtin; go_loud (refine wpList_append_strs rfl _ _ rfl w.heap.size (.slice none 0 0) [] P _ 0 k _ rfl HPL.out rfl (World.ownsRow_nil _ _ _ _) rfl HT1.out (by rw [HPL.out, List.length_nil]; omega) (Nat.le_refl _) ?_; intro v3 w3 hown3 hg3; have hb3 := below_grow (World.ownsRow_nil _ _ _ _) hg3 (Nat.le_refl _); rw [List.nil_append, Nat.zero_add] at hown3; obtain ⟨A3, c3, hv3, _, _⟩ := ownsRow_slice hown3; subst hv3; have HO3 := Lib.hid hown3; have HB3 := Lib.hid hb3; clear hown3 hb3 hg3))
          go_upto_region 9 with (at_builtin; go_loud (refine wpList_append_strs rfl _ _ rfl w.heap.size (.slice A3 k c3) P [s.data.toList] (some ⟨w3.heap.size, 0, none⟩) k 1 1 HPL.out rfl rfl (HO3.out.alloc _) rfl (one_at w3 s) (by have := HPL.out; simp only [List.length_cons, List.length_nil]; omega) (by rw [World.size_alloc]; have := HB3.out.size; omega) ?_; intro v4 w4 hown4 hg4; have hb4 := HB3.out.trans (((Below.refl _ _).alloc HB3.out.size _).trans (below_grow (HO3.out.alloc _) hg4 (by rw [World.size_alloc]; have := HB3.out.size; omega))); obtain ⟨A4, c4, hv4, _, _⟩ := ownsRow_slice hown4; subst hv4; have HO4 := Lib.hid hown4; have HB4 := Lib.hid hb4; clear hown4 hb4 hg4))
          go_upto_region 10 with (at_builtin; go_loud (refine wpList_append_strs rfl _ _ rfl w.heap.size (.slice A4 (k + 1) c4) (P ++ [s.data.toList]) R _ (k + 1) (0) _ (by rw [List.length_append, HPL.out]; rfl) HRL.out rfl HO4.out rfl (HNIL.out _ _) (by have := HPL.out; have := HRL.out; simp only [List.length_append, List.length_cons, List.length_nil]; omega) HB4.out.size ?_; intro v5 w5 hown5 hg5; have hb5 := HB4.out.trans (below_grow HO4.out hg5 HB4.out.size); rw [List.append_assoc, List.singleton_append] at hown5; obtain ⟨A5, c5, hv5, hst5, hc5, hcm5⟩ := strsT_own hown5 (by have := HPL.out; have := HRL.out; simp only [List.length_append, List.length_cons]; omega); subst hv5; have HST5 := Lib.hid hst5; have HB5 := Lib.hid hb5; have HC5 := Lib.hid hc5; clear hown5 hb5 hg5 hc5))
          go_wp2_with fail
          go_ret
          exact ⟨A5, c5, by rw [HADD.out, List.length_append, List.length_cons]; rfl, by rw [HADD.out]; exact HST5.out.at_, by rw [HADD.out]; exact HC5.out, hcm5, HB5.out⟩
end Go.Proofs.YtkihgbggndikpaaGreatDoor
namespace Go.Proofs.YtkihgbggndikpaaGreatDoor
open Go Go.RowKit Go.Shelf Go.Proofs
attribute [local go_sem] Oper.semAt_some

/-! Plain: a line's kind by its words. -/
theorem tell_none (o : Ow) : tellL o [] = some o := rfl
theorem tell_one (o : Ow) (a : Bs) : tellL o [a] = if namedB a then some (o.1, o.2 ++ [([], [a])]) else none := by
  have h1 : isNopL [a] = false := by unfold isNopL; rw [beq_eq_false_iff_ne]; simp
  have h2 : isPerL [a] = false := by unfold isPerL; simp
  have h3 : isNameL [a] = namedB a := by unfold isNameL; simp
  unfold tellL kindL
  rw [h1, h2, h3]
  cases namedB a <;> rfl
theorem tell_two (o : Ow) (a b : Bs) : tellL o [a, b] = if a == setW && b == nopW then some (true, o.2) else none := by
  have h1 : isNopL [a, b] = (a == setW && b == nopW) := by
    unfold isNopL
    rw [Bool.eq_iff_iff]; simp
  have h2 : isPerL [a, b] = false := by unfold isPerL; simp
  have h3 : isNameL [a, b] = false := by unfold isNameL; simp
  unfold tellL kindL
  rw [h1, h2, h3]
  cases (a == setW && b == nopW) <;> rfl
theorem tell_more (o : Ow) (a b c : Bs) (r : List Bs) : tellL o (a :: b :: c :: r) = if a == perW && (isGlobL b && (c :: r).all namedB) then some (o.1, o.2 ++ [(b, c :: r)]) else none := by
  have h1 : isNopL (a :: b :: c :: r) = false := by unfold isNopL; rw [beq_eq_false_iff_ne]; simp
  have h2 : isPerL (a :: b :: c :: r) = (a == perW && (isGlobL b && (c :: r).all namedB)) := by unfold isPerL; simp
  have h3 : isNameL (a :: b :: c :: r) = false := by unfold isNameL; simp
  unfold tellL kindL
  rw [h1, h2, h3]
  cases (a == perW && (isGlobL b && (c :: r).all namedB)) <;> rfl
theorem str_eq (p l : Bs) : ((mkB p).toList == l) = (p == l) := by rw [ByteArray.toList_eq, mkB_data]
theorem parse_bad {s : ByteArray} {k : Nat} (hs : s.size ≤ 16384) (h : parseTo s k = none) : parseV s.data.toList = (11, emptyO) := by
  unfold parseV
  rw [if_neg (by rw [Array.length_toList]; show ¬ 16384 < s.size; omega), parseL_take _ _ h]
theorem parse_good {s : ByteArray} {k : Nat} {o : Ow} (hs : s.size ≤ 16384) (hk : (splitL 10 s.data.toList).length ≤ k) (h : parseTo s k = some o) : parseV s.data.toList = (0, o) := by
  unfold parseTo at h
  rw [List.take_of_length_le hk] at h
  unfold parseV
  rw [if_neg (by rw [Array.length_toList]; show ¬ 16384 < s.size; omega), h]

theorem row_below' {W W' : World} {b : Nat} {o : Obj} (h : W.heap[b]? = some o) (hb : Below W.heap.size W W') : W'.heap[b]? = some o := (hb.block _ (Array.getElem?_eq_some_iff.1 h).1).trans h
theorem below_new' (w : World) (o : Obj) : Below w.heap.size w (w.alloc o) := (Below.refl _ w).alloc (Nat.le_refl _) _
/-- How the loop stands. -/
def RefPI (s : ByteArray) (b4 k : Nat) (w3 W : World) : Prop := ∃ L np, Hid (parseTo s k = some (np, lnsX L)) ∧ OwO w3.heap.size b4 L np W ∧ L.length ≤ k ∧ TurnO w3.heap.size b4 w3 W

set_option maxRecDepth 100000 in
set_option maxHeartbeats 8000000 in
theorem refparse_any (s : ByteArray) (w : World) (hs : s.size ≤ 16384) :
    Calls Tryz.prog 14 #[.string s] w (ParsePost s.data.toList w) := by
  have hgs : ¬ (16384 : Int) < (s.size : Int) := by omega
  have hsl := splitL_length 10 s.data.toList
  have hsl : (splitL 10 s.data.toList).length ≤ s.size + 1 := by have h : s.data.toList.length = s.size := Array.length_toList; omega
  have hne := splitL_ne 10 s.data.toList
  have hpb := parse_bad (s := s) (k := 0) hs
  clear hpb
  have hb0 : Below w.heap.size w ((w.alloc (.cells #[.bool false, .slice none 0 0] 24)).alloc (.cells #[.bool false, .slice none 0 0] 24)) := ((Below.refl _ w).alloc (Nat.le_refl _) _).alloc (by simp) _
  have HS := Lib.hid (refsplit_any s 10 ((w.alloc (.cells #[.bool false, .slice none 0 0] 24)).alloc (.cells #[.bool false, .slice none 0 0] 24)) (by omega))
  have hn2 := heap_alloc_new w (.cells #[.bool false, .slice none 0 0] 24)
  have hn2 := row_below' hn2 (below_new' (w.alloc (.cells #[.bool false, .slice none 0 0] 24)) (.cells #[.bool false, .slice none 0 0] 24))
  have hn4 := heap_alloc_new (w.alloc (.cells #[.bool false, .slice none 0 0] 24)) (.cells #[.bool false, .slice none 0 0] 24)
  rw [World.size_alloc] at hn4
  obtain ⟨P, hP⟩ : ∃ P, splitL 10 s.data.toList = P := ⟨_, rfl⟩
  have HPX : Hid (∀ (k : Nat) (p : Bs), P[k]? = some p → (piecesB 10 s)[k]? = some (mkB p)) := fun k p h => by unfold piecesB; rw [hP, List.getElem?_map, h]; rfl
  have HPS : Hid (∀ (k : Nat) (p : Bs), P[k]? = some p → p.length ≤ 16384) := fun k p h => by
    have := piece_le 10 s.data.toList p (by rw [hP]; exact List.mem_of_getElem? h)
    rw [Array.length_toList] at this
    exact Nat.le_trans this hs
  have HEND : Hid (∀ k o, P.length ≤ k → parseTo s k = some o → parseV s.data.toList = (0, o)) := fun k o hk h => parse_good hs (by rw [hP]; exact hk) h
  rw [hP] at HS hsl hne
  have HB0 := Lib.hid hb0
  have HN2 := Lib.hid hn2
  have HN4 := Lib.hid hn4
  have hp0 : P.length ≠ 0 := fun e => hne (List.eq_nil_of_length_eq_zero e)
  obtain ⟨n, hn⟩ : ∃ n, P.length = n := ⟨_, rfl⟩
  have HN := Lib.hid hn
  clear hb0 hn2 hn4 hP hne
  go_enter Tryz.func14, Tryz.ntmps14
  go_wp2_with fail
  refine HS.out.mono ?_
  rintro e w3 ⟨v, rfl, hrow, hb3⟩
  obtain ⟨gp, cp, rfl, hr, hg1, hg2⟩ := names_row hrow hp0
  rw [hn] at hsl ⊢
  simp only [World.size_alloc] at hg1
  have h2 := row_below' HN2.out hb3
  have h4 := row_below' HN4.out hb3
  have hb3w := HB0.out.trans (hb3.mono HB0.out.size)
  have hz : w.heap.size + 2 ≤ w3.heap.size := by have := hb3.size; simp at this; omega
  have HR := Lib.hid hr
  have H2 := Lib.hid h2
  have H4 := Lib.hid h4
  have HB3 := Lib.hid hb3w
  have HZ : Hid (w.heap.size + 2 ≤ w3.heap.size ∧ w.heap.size + 2 ≤ gp ∧ gp < w3.heap.size) := ⟨hz, by omega, hg2⟩
  clear hrow hr hg1 hg2 hb3 h2 h4 hb3w hz HS HB0 HN2 HN4 hn hp0
  go_wp2_with fail
  go_loopw [6] (fun i wr => ∃ k : Nat, k ≤ n ∧ i = .int .i64 k ∧ RefPI s (w.heap.size + 1) k w3 wr) (fun i _ => n - (intOf i).toNat)
  case atStart => exact ⟨0, Nat.zero_le _, rfl, [], false, rfl, ⟨⟨_, H4.out, World.ownsRow_nil _ _ _ _⟩, fun x hx => by cases hx⟩, Nat.le_refl _, TurnO.of_below (Below.refl _ _)⟩
  case round =>
    obtain ⟨k, hk, rfl, L, np, hst, hO, hL, hTu⟩ := hrel
    by_cases h1 : k < n
    · have hkl : k < P.length := by have := HN.out; omega
      obtain ⟨p, hp⟩ : ∃ p, P[k]? = some p := ⟨_, List.getElem?_eq_getElem hkl⟩
      have hz := HZ.out
      have hblk : wr.heap[gp]? = w3.heap[gp]? := hTu.low gp hz.2.2 hz.2.2 (by omega)
      have c1 : wr.cell? ⟨gp, k, none⟩ = some (.string (mkB p)) := (World.cell?_of_block (a := ⟨gp, k, none⟩) hblk).trans (HR.out k p hp)
      have hstep := parseTo_step (HPX.out k p hp) hst.out
      rw [mkB_data] at hstep
      have hps := HPS.out k p hp
      have hW := refwords_any (mkB p) wr (by rw [mkB_size]; omega)
      rw [mkB_data] at hW
      have hw1 := wordsL_len p
      have hw2 := wordsL_small p
      obtain ⟨ws, hws⟩ : ∃ ws, wordsL p = ws := ⟨_, rfl⟩
      rw [hws] at hstep hW hw1 hw2
      have HW := Lib.hid hW
      have HSTEP := Lib.hid hstep
      have HO := Lib.hid hO
      have HTU := Lib.hid hTu
      have HWL : Hid (ws.length ≤ 16385 ∧ ∀ x ∈ ws, x.length ≤ 16384) := ⟨by omega, fun x hx => Nat.le_trans (hw2 x hx) hps⟩
      have HL := Lib.hid hL
      have HWS : Hid (w3.heap.size ≤ wr.heap.size) := hTu.size
      clear hW hstep hst hO hTu hp hkl hblk hws hw1 hw2 hps hz hL
      go_wp2_with fail
      refine HW.out.mono ?_
      rintro e w5 ⟨A, c, rfl, hwt, hwc, hwm, hb5⟩
      have hO5 := HO.out.below hb5
      have hT5 := HTU.out.trans (TurnO.of_below hb5)
      have hB5 := HWS.out
      have hz5 := Nat.le_trans HWS.out hb5.size
      match ws, HWL, HSTEP, hwt, hwc with
      | [], HWL, HSTEP, hwt, hwc =>
        simp only [List.length_nil]
        have HO5 := Lib.hid hO5
        have HT5 := Lib.hid hT5
        have HSN := Lib.hid (HSTEP.out.trans (tell_none _))
        clear hO5 hT5 hwt hb5 HW HSTEP
        go_wp2_with fail
        go_roundw
        case rel => exact ⟨k + 1, by omega, by go_num, L, np, HSN.out, HO5.out, by have := HL.out; omega, HT5.out⟩
        case measure => simp [intOf]; omega
      | [a], HWL, HSTEP, hwt, hwc =>
        simp only [List.length_cons, List.length_nil, Nat.zero_add] at hwc ⊢
        obtain ⟨g, o, rfl, hc⟩ := hwt.at_ (by simp)
        have c0 := hc 0 a rfl
        rw [Nat.add_zero] at c0
        have hN := refnamed_any (mkB a) w5 (by rw [mkB_size]; have := HWL.out.2 a (by simp); unfold maxLen; omega)
        rw [mkB_data] at hN
        have HNM := Lib.hid hN
        have hstep := HSTEP.out.trans (tell_one _ a)
        have hz := HZ.out
        have hls : L.length ≤ 100000 := by have := HL.out; omega
        clear hc HW HSTEP hN
        cases hq : namedB a with
        | true =>
          rw [hq, if_pos rfl] at hstep
          have hstep : parseTo s (k + 1) = some (np, lnsX (L ++ [⟨⟨#[]⟩, some ⟨g, o, none⟩, c, [a]⟩])) := by rw [hstep, lnsX_append]; rfl
          obtain ⟨v, h1b, h2b⟩ := hO5.box
          obtain ⟨Av, cv, rfl, _, _⟩ := ownsRow_slice h2b
          have c1 : w5.cell? ⟨w.heap.size + 1, 1, none⟩ = some (.slice Av L.length cv) := cell_of_row w5 _ 1 _ _ _ h1b
          have f1 : w5.frozen? ⟨w.heap.size + 1, 1, none⟩ = false := frozen_of_row _ _ _ _ _ h1b
          have HQ := Lib.hid hq
          have HST := Lib.hid hstep
          have H1B := Lib.hid h1b
          have H2B := Lib.hid h2b
          have HO5 := Lib.hid hO5.own
          have HT5 := Lib.hid hT5
          have HX : Hid (StrsT w3.heap.size w5 (some ⟨g, o, none⟩) [a]) := hwt.lower HWS.out
          have hb4 : w.heap.size + 1 < w3.heap.size := by omega
          clear hq hstep h1b h2b hO5 hT5 hwt hb5 hz
          go_wp2_with fail
          refine HNM.out.mono ?_
          rintro e w6 ⟨rfl, hw⟩
          have hw := hw.symm
          subst hw
          rw [HQ.out]
          go_wp2_with (at_builtin; go_loud (refine wpList_append_line rfl _ _ rfl w3.heap.size _ L ⟨⟨#[]⟩, some ⟨g, o, none⟩, c, [a]⟩ w5.heap.size 1 rfl (H2B.out.alloc _) rfl (cell_two _ _ _ _) hls (by rw [World.size_alloc]; omega) ?_; intro v' w7 hown2 hgrow; obtain ⟨A3, c3, hv3, _, _⟩ := ownsRow_slice hown2; subst hv3; obtain ⟨hO2, hT2⟩ := OwO.line (x := ⟨⟨#[]⟩, some ⟨g, o, none⟩, c, [a]⟩) hb4 hz5 H1B.out H2B.out HO5.out ⟨HX.out, hwc, hwm⟩ hgrow hown2; rw [show (L ++ [(⟨⟨#[]⟩, some ⟨g, o, none⟩, c, [a]⟩ : LX)]).length = L.length + 1 from by rw [List.length_append]; rfl] at hO2 hT2; have hb3 := add_box hb4 H1B.out H2B.out hgrow; have d1 : w7.cell? ⟨w.heap.size + 1, 1, none⟩ = some (.slice Av L.length cv) := cell_of_row w7 _ 1 _ _ _ hb3; have e1 : w7.frozen? ⟨w.heap.size + 1, 1, none⟩ = false := frozen_of_row w7 _ 1 _ _ hb3; have HO2 := Lib.hid hO2; have HT2 := Lib.hid hT2; clear hO2 hT2 hown2 hgrow hb3))
          go_roundw
          case rel => exact ⟨k + 1, by omega, by go_num, _, np, HST.out, HO2.out, by rw [List.length_append]; have := HL.out; simp; omega, HT5.out.trans HT2.out⟩
          case measure => simp [intOf]; omega
        | false =>
          rw [hq, if_neg (by simp)] at hstep
          have hbw := HB3.out.trans (hT5.below (n := w.heap.size) (by omega) (by omega) HB3.out.size)
          have hrow2 : w5.heap[w.heap.size]? = some (.cells #[.bool false, .slice none 0 0] 24 (0, 0)) := (hT5.low w.heap.size (by omega) (by omega) (by omega)).trans H2.out
          have HBAD := Lib.hid (parse_bad hs hstep)
          have HQ := Lib.hid hq
          have HR2 := Lib.hid hrow2
          have HBW := Lib.hid hbw
          clear hq hstep hO5 hT5 hwt hb5 hz hbw hrow2
          go_wp2_with fail
          refine HNM.out.mono ?_
          rintro e w6 ⟨rfl, hw⟩
          have hw := hw.symm
          subst hw
          rw [HQ.out]
          clear c0
          have c0 : w5.cell? ⟨w.heap.size, 0, none⟩ = some (.bool false) := cell_of_row _ _ 0 _ _ _ HR2.out
          have c1 : w5.cell? ⟨w.heap.size, 1, none⟩ = some (.slice none 0 0) := cell_of_row _ _ 1 _ _ _ HR2.out
          have f0 : w5.frozen? ⟨w.heap.size, 0, none⟩ = false := frozen_of_row _ _ _ _ _ HR2.out
          have f1 : w5.frozen? ⟨w.heap.size, 1, none⟩ = false := frozen_of_row _ _ _ _ _ HR2.out
          go_wp2_with fail
          have h4 := heap_setCell_same _ _ 1 _ _ (.slice none 0 0) (heap_setCell_same _ _ 0 _ _ (.bool false) HR2.out)
          refine bodyPost_ret (results_cell_tmp rfl _ _ w.heap.size _ #[.bool false, .slice none 0 0] (0, 0) _ (.int .i64 11) rfl rfl h4 Tryz.underlying24 rfl (by kernel_rfl)) rfl ?_
          exact ⟨owV false none 0 0, by rw [HBAD.out]; rfl, by rw [HBAD.out]; exact OwAt.empty _, (HBW.out.setCell (p := ⟨w.heap.size, 0, none⟩) (Nat.le_refl _) _).setCell (p := ⟨w.heap.size, 1, none⟩) (Nat.le_refl _) _⟩
      | [a, b], HWL, HSTEP, hwt, hwc =>
        simp only [List.length_cons, List.length_nil, Nat.zero_add, Nat.reduceAdd] at hwc ⊢
        obtain ⟨g, o, rfl, hc⟩ := hwt.at_ (by simp)
        have c0 := hc 0 a rfl
        have c9 := hc 1 b rfl
        rw [Nat.add_zero] at c0
        have ha : ((mkB a).toList == [115, 101, 116]) = (a == setW) := str_eq a _
        have hbb : ((mkB b).toList == [110, 111, 112, 97, 114, 101, 110, 116]) = (b == nopW) := str_eq b _
        have hstep := HSTEP.out.trans (tell_two _ a b)
        have hz := HZ.out
        clear hc HW HSTEP
        cases hq : (a == setW && b == nopW) with
        | true =>
          rw [hq, if_pos rfl] at hstep
          simp only [Bool.and_eq_true] at hq
          rw [hq.1] at ha
          rw [hq.2] at hbb
          obtain ⟨v, h1b, h2b⟩ := hO5.box
          have c1 : w5.cell? ⟨w.heap.size + 1, 0, none⟩ = some (.bool np) := cell_of_row w5 _ 0 _ _ _ h1b
          have f1 : w5.frozen? ⟨w.heap.size + 1, 0, none⟩ = false := frozen_of_row _ _ _ _ _ h1b
          have HST := Lib.hid hstep
          have H1B := Lib.hid h1b
          have H2B := Lib.hid h2b
          have HO5 := Lib.hid hO5.own
          have HT5 := Lib.hid hT5
          clear hq hstep h1b h2b hO5 hT5 hwt hb5
          go_wp2_with fail
          go_roundw
          case rel =>
            have h4 : (w5.setCell ⟨w.heap.size + 1, 0, none⟩ (.bool true)).heap[w.heap.size + 1]? = some (.cells #[.bool true, v] 24 (0, 0)) := heap_setCell_same w5 _ 0 _ _ (.bool true) H1B.out
            refine ⟨k + 1, by omega, by go_num, L, true, HST.out, ⟨⟨v, h4, H2B.out.kept (grownBy_cell w5 _ 0 _) ?_⟩, fun y hy => ⟨(HO5.out y hy).1.keep fun g cur hbg hgg => heap_setCell_other w5 ⟨w.heap.size + 1, 0, none⟩ g _ (by show g ≠ w.heap.size + 1; omega), (HO5.out y hy).2⟩⟩, by have := HL.out; omega, HT5.out.trans ⟨rfl, rfl, rfl, by simp [World.setCell], fun j o hj hn _ => (heap_setCell_other w5 ⟨w.heap.size + 1, 0, none⟩ j _ hn).trans hj, fun j _ _ hn => heap_setCell_other w5 ⟨w.heap.size + 1, 0, none⟩ j _ hn⟩⟩
            rcases H2B.out.2 with ⟨rfl, _⟩ | ⟨g, cap, cur, rfl, hbg, _⟩
            · exact .inl rfl
            · refine .inr fun e => ?_
              simp only [Value.ownBlock, Option.some.injEq] at e
              omega
          case measure => simp [intOf]; omega
        | false =>
          rw [hq, if_neg (by simp)] at hstep
          have hbw := HB3.out.trans (hT5.below (n := w.heap.size) (by omega) (by omega) HB3.out.size)
          have hrow2 : w5.heap[w.heap.size]? = some (.cells #[.bool false, .slice none 0 0] 24 (0, 0)) := (hT5.low w.heap.size (by omega) (by omega) (by omega)).trans H2.out
          have HBAD := Lib.hid (parse_bad hs hstep)
          have HR2 := Lib.hid hrow2
          have HBW := Lib.hid hbw
          clear hstep hO5 hT5 hwt hb5 hz hbw hrow2
          have gab : ((mkB a).toList == [115, 101, 116]) = false ∨ ((mkB a).toList == [115, 101, 116]) = true ∧ ((mkB b).toList == [110, 111, 112, 97, 114, 101, 110, 116]) = false := by
            rw [ha, hbb]
            cases h5 : (a == setW) with
            | false => exact .inl rfl
            | true => rw [h5, Bool.true_and] at hq; exact .inr ⟨rfl, hq⟩
          have d0 : w5.cell? ⟨w.heap.size, 0, none⟩ = some (.bool false) := cell_of_row _ _ 0 _ _ _ HR2.out
          have d1 : w5.cell? ⟨w.heap.size, 1, none⟩ = some (.slice none 0 0) := cell_of_row _ _ 1 _ _ _ HR2.out
          have f0 : w5.frozen? ⟨w.heap.size, 0, none⟩ = false := frozen_of_row _ _ _ _ _ HR2.out
          have f1 : w5.frozen? ⟨w.heap.size, 1, none⟩ = false := frozen_of_row _ _ _ _ _ HR2.out
          clear ha hbb hq
          rcases gab with ga | ⟨ga, gb⟩ <;>
          · go_wp2_with fail
            have h4 := heap_setCell_same _ _ 1 _ _ (.slice none 0 0) (heap_setCell_same _ _ 0 _ _ (.bool false) HR2.out)
            refine bodyPost_ret (results_cell_tmp rfl _ _ w.heap.size _ #[.bool false, .slice none 0 0] (0, 0) _ (.int .i64 11) rfl rfl h4 Tryz.underlying24 rfl (by kernel_rfl)) rfl ?_
            exact ⟨owV false none 0 0, by rw [HBAD.out]; rfl, by rw [HBAD.out]; exact OwAt.empty _, (HBW.out.setCell (p := ⟨w.heap.size, 0, none⟩) (Nat.le_refl _) _).setCell (p := ⟨w.heap.size, 1, none⟩) (Nat.le_refl _) _⟩
      | a :: b :: d :: r, HWL, HSTEP, hwt, hwc =>
        obtain ⟨g, o, rfl, hc⟩ := hwt.at_ (by simp)
        have c0 := hc 0 a rfl
        have c9 := hc 1 b rfl
        rw [Nat.add_zero] at c0
        have hpe : ((mkB a).toList == [112, 101, 114, 45, 102, 105, 108, 101]) = (a == perW) := str_eq a _
        have hstep := HSTEP.out.trans (tell_more _ a b d r)
        have hz := HZ.out
        have hls : L.length ≤ 100000 := by have := HL.out; omega
        have hwl := HWL.out.1
        have hblen := HWL.out.2 b (by simp)
        have hlast : WordsAt w5 (some ⟨g, o + 2, none⟩) (c - 2) (d :: r) := ⟨fun _ => ⟨g, o + 2, rfl, fun i x hx => by
          have := hc (i + 2) x (by simpa using hx)
          rwa [show o + 2 + i = o + (i + 2) from by omega]⟩, by simp at hwc ⊢; omega, by omega, by simp at hwl ⊢; omega, fun x hx => Nat.le_trans (HWL.out.2 x (by simp at hx ⊢; right; right; exact hx)) (by omega)⟩
        have hdr : (d :: r).length = (a :: b :: d :: r).length - 2 := by simp
        have hn3 : 3 ≤ (a :: b :: d :: r).length := by simp
        obtain ⟨n, hn⟩ : ∃ n, (a :: b :: d :: r).length = n := ⟨_, rfl⟩
        rw [hn] at hwc hwl hdr hn3 ⊢
        have i0 : ((n : Int) == 0) = false := by rw [beq_eq_false_iff_ne]; omega
        have i1 : ((n : Int) == 1) = false := by rw [beq_eq_false_iff_ne]; omega
        have i2 : ((n : Int) == 2) = false := by rw [beq_eq_false_iff_ne]; omega
        have i3 : (2 : Int) < (n : Int) := by omega
        have e3 : c ≠ 2 := by omega
        have HLAST := Lib.hid hlast
        have HDR := Lib.hid hdr
        have hT5b := hT5
        have HT5 := Lib.hid hT5b
        have HO5X := Lib.hid hO5
        have HWT := Lib.hid (hwt.lower HWS.out)
        clear hT5b hlast hdr hc HW HSTEP hn hO5 hwt hb5
        cases h2 : (a == perW) with
        | false =>
          rw [h2] at hpe
          rw [h2, Bool.false_and, if_neg (by simp)] at hstep
          have HBAD := Lib.hid (parse_bad hs hstep)
          clear hstep h2
          have hbw := HB3.out.trans (hT5.below (n := w.heap.size) (by omega) (by omega) HB3.out.size)
          have hrow2 : w5.heap[w.heap.size]? = some (.cells #[.bool false, .slice none 0 0] 24 (0, 0)) := (hT5.low w.heap.size (by omega) (by omega) (by omega)).trans H2.out
          have HR2 := Lib.hid hrow2
          have HBW := Lib.hid hbw
          clear hrow2 hbw
          have d0 : w5.cell? ⟨w.heap.size, 0, none⟩ = some (.bool false) := cell_of_row _ _ 0 _ _ _ HR2.out
          have d1 : w5.cell? ⟨w.heap.size, 1, none⟩ = some (.slice none 0 0) := cell_of_row _ _ 1 _ _ _ HR2.out
          have f0 : w5.frozen? ⟨w.heap.size, 0, none⟩ = false := frozen_of_row _ _ _ _ _ HR2.out
          have f1 : w5.frozen? ⟨w.heap.size, 1, none⟩ = false := frozen_of_row _ _ _ _ _ HR2.out
          go_wp2_with fail
          have h4 := heap_setCell_same _ _ 1 _ _ (.slice none 0 0) (heap_setCell_same _ _ 0 _ _ (.bool false) HR2.out)
          refine bodyPost_ret (results_cell_tmp rfl _ _ w.heap.size _ #[.bool false, .slice none 0 0] (0, 0) _ (.int .i64 11) rfl rfl h4 Tryz.underlying24 rfl (by kernel_rfl)) rfl ?_
          exact ⟨owV false none 0 0, by rw [HBAD.out]; rfl, by rw [HBAD.out]; exact OwAt.empty _, (HBW.out.setCell (p := ⟨w.heap.size, 0, none⟩) (Nat.le_refl _) _).setCell (p := ⟨w.heap.size, 1, none⟩) (Nat.le_refl _) _⟩
        | true =>
          rw [h2] at hpe
          rw [h2, Bool.true_and] at hstep
          have HG := Lib.hid (refglob_any (mkB b) w5 (by rw [mkB_size]; omega))
          cases h3 : globB b with
          | false =>
            rw [if_neg (by unfold isGlobL; rw [h3]; simp)] at hstep
            have HBAD := Lib.hid (parse_bad hs hstep)
            have H3 := Lib.hid h3
            clear hstep h2 h3 hT5
            go_wp2_with fail
            refine HG.out.mono ?_
            rintro e w6 ⟨rfl, hb6⟩
            rw [mkB_data, H3.out]
            have hT6 := HT5.out.trans (TurnO.of_below hb6)
            clear hb6
            have hbw := HB3.out.trans (hT6.below (n := w.heap.size) (by omega) (by omega) HB3.out.size)
            have hrow2 : w6.heap[w.heap.size]? = some (.cells #[.bool false, .slice none 0 0] 24 (0, 0)) := (hT6.low w.heap.size (by omega) (by omega) (by omega)).trans H2.out
            have HR2 := Lib.hid hrow2
            have HBW := Lib.hid hbw
            clear hrow2 hbw
            have d0 : w6.cell? ⟨w.heap.size, 0, none⟩ = some (.bool false) := cell_of_row _ _ 0 _ _ _ HR2.out
            have d1 : w6.cell? ⟨w.heap.size, 1, none⟩ = some (.slice none 0 0) := cell_of_row _ _ 1 _ _ _ HR2.out
            have f0 : w6.frozen? ⟨w.heap.size, 0, none⟩ = false := frozen_of_row _ _ _ _ _ HR2.out
            have f1 : w6.frozen? ⟨w.heap.size, 1, none⟩ = false := frozen_of_row _ _ _ _ _ HR2.out
            go_wp2_with fail
            have h4 := heap_setCell_same _ _ 1 _ _ (.slice none 0 0) (heap_setCell_same _ _ 0 _ _ (.bool false) HR2.out)
            refine bodyPost_ret (results_cell_tmp rfl _ _ w.heap.size _ #[.bool false, .slice none 0 0] (0, 0) _ (.int .i64 11) rfl rfl h4 Tryz.underlying24 rfl (by kernel_rfl)) rfl ?_
            exact ⟨owV false none 0 0, by rw [HBAD.out]; rfl, by rw [HBAD.out]; exact OwAt.empty _, (HBW.out.setCell (p := ⟨w.heap.size, 0, none⟩) (Nat.le_refl _) _).setCell (p := ⟨w.heap.size, 1, none⟩) (Nat.le_refl _) _⟩
          | true =>
            have H3 := Lib.hid h3
            have HHAS := Lib.hid (fun W => refhas_any (mkB b) W (by rw [mkB_size]; omega))
            cases h4 : b.contains 47 with
            | true =>
              rw [if_neg (by unfold isGlobL; rw [h4]; simp)] at hstep
              have HBAD := Lib.hid (parse_bad hs hstep)
              have H4C := Lib.hid h4
              clear hstep h2 h3 hT5 h4
              go_wp2_with fail
              refine HG.out.mono ?_
              rintro e w6 ⟨rfl, hb6⟩
              rw [mkB_data, H3.out]
              have c96 : w6.cell? ⟨g, o + 1, none⟩ = some (.string (mkB b)) := by
                obtain ⟨g', o', e, hc⟩ := (HWT.out.below hb6).at_ (by simp)
                cases e; exact hc 1 b rfl
              have HT6 := Lib.hid (HT5.out.trans (TurnO.of_below hb6))
              clear hb6
              go_wp2_with fail
              refine (HHAS.out w6).mono ?_
              rintro e w7 ⟨rfl, hb7⟩
              rw [mkB_data, H4C.out]
              have hT7 := HT6.out.trans (TurnO.of_below hb7)
              clear hb7
              have hbw := HB3.out.trans (hT7.below (n := w.heap.size) (by omega) (by omega) HB3.out.size)
              have hrow2 : w7.heap[w.heap.size]? = some (.cells #[.bool false, .slice none 0 0] 24 (0, 0)) := (hT7.low w.heap.size (by omega) (by omega) (by omega)).trans H2.out
              have HR2 := Lib.hid hrow2
              have HBW := Lib.hid hbw
              clear hrow2 hbw
              have d0 : w7.cell? ⟨w.heap.size, 0, none⟩ = some (.bool false) := cell_of_row _ _ 0 _ _ _ HR2.out
              have d1 : w7.cell? ⟨w.heap.size, 1, none⟩ = some (.slice none 0 0) := cell_of_row _ _ 1 _ _ _ HR2.out
              have f0 : w7.frozen? ⟨w.heap.size, 0, none⟩ = false := frozen_of_row _ _ _ _ _ HR2.out
              have f1 : w7.frozen? ⟨w.heap.size, 1, none⟩ = false := frozen_of_row _ _ _ _ _ HR2.out
              go_wp2_with fail
              have h4 := heap_setCell_same _ _ 1 _ _ (.slice none 0 0) (heap_setCell_same _ _ 0 _ _ (.bool false) HR2.out)
              refine bodyPost_ret (results_cell_tmp rfl _ _ w.heap.size _ #[.bool false, .slice none 0 0] (0, 0) _ (.int .i64 11) rfl rfl h4 Tryz.underlying24 rfl (by kernel_rfl)) rfl ?_
              exact ⟨owV false none 0 0, by rw [HBAD.out]; rfl, by rw [HBAD.out]; exact OwAt.empty _, (HBW.out.setCell (p := ⟨w.heap.size, 0, none⟩) (Nat.le_refl _) _).setCell (p := ⟨w.heap.size, 1, none⟩) (Nat.le_refl _) _⟩
            | false =>
              have H4C := Lib.hid h4
              have hgl : isGlobL b = true := by unfold isGlobL; rw [h3, h4]; rfl
              rw [hgl, Bool.true_and] at hstep
              clear h2 h3 hT5 h4 hgl
              have HSTEP := Lib.hid hstep
              clear hstep
              go_wp2_with fail
              refine HG.out.mono ?_
              rintro e w6 ⟨rfl, hb6⟩
              rw [mkB_data, H3.out]
              have c96 : w6.cell? ⟨g, o + 1, none⟩ = some (.string (mkB b)) := by
                obtain ⟨g', o', e, hc⟩ := (HWT.out.below hb6).at_ (by simp)
                cases e; exact hc 1 b rfl
              have HB6 := Lib.hid hb6
              clear hb6
              go_wp2_with fail
              refine (HHAS.out w6).mono ?_
              rintro e w7 ⟨rfl, hb7⟩
              rw [mkB_data, H4C.out]
              have hb57 := HB6.out.trans (hb7.mono HB6.out.size)
              have hT7 := HT5.out.trans (TurnO.of_below hb57)
              have hN := refallnamed_any _ _ _ w7 (HLAST.out.below hb57)
              rw [HDR.out] at hN
              have HN7 := Lib.hid hN
              have HT7 := Lib.hid hT7
              have HB57 := Lib.hid hb57
              have hnz : decide (0 < n - 2) = true := decide_eq_true (by omega)
              rw [hnz, Bool.and_true] at HN7
              clear hN hb7 hb57 hnz c96
              go_wp2_with fail
              refine HN7.out.mono ?_
              rintro e w8 ⟨rfl, hw8⟩
              have hw8 := hw8.symm
              subst hw8
              cases h5 : (d :: r).all namedB with
              | false =>
                have hstep := HSTEP.out
                rw [h5, if_neg (by simp)] at hstep
                have HBAD := Lib.hid (parse_bad hs hstep)
                clear hstep h5
                have hbw := HB3.out.trans (hT7.below (n := w.heap.size) (by omega) (by omega) HB3.out.size)
                have hrow2 : w7.heap[w.heap.size]? = some (.cells #[.bool false, .slice none 0 0] 24 (0, 0)) := (hT7.low w.heap.size (by omega) (by omega) (by omega)).trans H2.out
                have HR2 := Lib.hid hrow2
                have HBW := Lib.hid hbw
                clear hrow2 hbw
                have d0 : w7.cell? ⟨w.heap.size, 0, none⟩ = some (.bool false) := cell_of_row _ _ 0 _ _ _ HR2.out
                have d1 : w7.cell? ⟨w.heap.size, 1, none⟩ = some (.slice none 0 0) := cell_of_row _ _ 1 _ _ _ HR2.out
                have f0 : w7.frozen? ⟨w.heap.size, 0, none⟩ = false := frozen_of_row _ _ _ _ _ HR2.out
                have f1 : w7.frozen? ⟨w.heap.size, 1, none⟩ = false := frozen_of_row _ _ _ _ _ HR2.out
                go_wp2_with fail
                have h4 := heap_setCell_same _ _ 1 _ _ (.slice none 0 0) (heap_setCell_same _ _ 0 _ _ (.bool false) HR2.out)
                refine bodyPost_ret (results_cell_tmp rfl _ _ w.heap.size _ #[.bool false, .slice none 0 0] (0, 0) _ (.int .i64 11) rfl rfl h4 Tryz.underlying24 rfl (by kernel_rfl)) rfl ?_
                exact ⟨owV false none 0 0, by rw [HBAD.out]; rfl, by rw [HBAD.out]; exact OwAt.empty _, (HBW.out.setCell (p := ⟨w.heap.size, 0, none⟩) (Nat.le_refl _) _).setCell (p := ⟨w.heap.size, 1, none⟩) (Nat.le_refl _) _⟩
              | true =>
                have hstep := HSTEP.out
                rw [h5, if_pos rfl] at hstep
                have hstep : parseTo s (k + 1) = some (np, lnsX (L ++ [⟨mkB b, some ⟨g, o + 2, none⟩, c - 2, d :: r⟩])) := by rw [hstep, lnsX_append]; simp [lnsX, LX.ln, mkB_data]
                have HST := Lib.hid hstep
                have hO7 := HO5X.out.below HB57.out
                have hwt7 := HWT.out.below HB57.out
                obtain ⟨v, h1b, h2b⟩ := hO7.box
                obtain ⟨Av, cv, rfl, _, _⟩ := ownsRow_slice h2b
                obtain ⟨cur, hgg, hcu⟩ : ∃ cur, w7.heap[g]? = some (.cells cur 9 (0, 0)) ∧ cur[o + 1]? = some (.string (mkB b)) := by
                  obtain ⟨g', o', cur, e, h1, h3, hc⟩ := hwt7 (by simp)
                  simp only [Option.some.injEq, Addr.mk.injEq] at e
                  obtain ⟨rfl, rfl, _⟩ := e
                  exact ⟨cur, h3, hc 1 b rfl⟩
                have c1 : w7.cell? ⟨w.heap.size + 1, 1, none⟩ = some (.slice Av L.length cv) := cell_of_row w7 _ 1 _ _ _ h1b
                have c9 : w7.cell? ⟨g, o + 1, none⟩ = some (.string (mkB b)) := (cell_of_row w7 g (o + 1) _ _ _ hgg).trans hcu
                have HC7 : Hid (∀ W' : World, Below w7.drew.heap.size w7.drew W' → W'.cell? ⟨g, o + 1, none⟩ = some (.string (mkB b))) := fun W' hb => (cell_of_row W' g (o + 1) _ _ _ (row_below' (W := w7.drew) hgg hb)).trans hcu
                have HC8 : Hid (∀ (o8 : Obj) (w8 : World), (w7.drew.alloc o8).grownBy w8 (Value.slice Av L.length cv).ownBlock → w8.cell? ⟨g, o + 1, none⟩ = some (.string (mkB b))) := fun o8 w8 hgr => by
                  have hb8 := row_below' (W := w7.drew) hgg (below_new' w7.drew o8)
                  refine (cell_of_row w8 g (o + 1) _ _ _ ((hgr.block g (Array.getElem?_eq_some_iff.1 hb8).1 (fun e => ?_)).trans hb8)).trans hcu
                  obtain ⟨_, cu2, hc2⟩ := row_ge h2b e.symm
                  rw [hgg] at hc2; simp at hc2
                have hdrb : Below w7.heap.size w7 w7.drew := ⟨rfl, rfl, rfl, Nat.le_refl _, fun _ _ => rfl⟩
                have HX : Hid (StrsT w3.heap.size w7.drew (some ⟨g, o + 2, none⟩) (d :: r) ∧ (d :: r).length ≤ c - 2 ∧ c - 2 ≤ maxLen) := ⟨(hwt7.below hdrb).drop 2, by rw [HDR.out]; omega, by omega⟩
                have H1B := Lib.hid h1b
                have H2B := Lib.hid (show w7.drew.ownsRow w3.heap.size 62 2 (.slice Av L.length cv) L.length (lcells L) from h2b)
                have HO5 : Hid (∀ x ∈ L, StrsT w3.heap.size w7.drew x.A x.ns ∧ x.ns.length ≤ x.c ∧ x.c ≤ maxLen) := fun x hx => ⟨(hO7.own x hx).1.below hdrb, (hO7.own x hx).2⟩
                have HTD := Lib.hid (HT7.out.trans (TurnO.of_below hdrb))
                have hz7 : w3.heap.size ≤ w7.heap.size := HT7.out.size
                have hb4 : w.heap.size + 1 < w3.heap.size := by omega
                have hHeld := (show w7.drew.cell? ⟨w.heap.size + 1, 1, none⟩ = some (.slice Av L.length cv) ∧ w7.drew.cell? ⟨g, o + 1, none⟩ = some (.string (mkB b)) from ⟨c1, c9⟩)
                obtain ⟨ti, hi, hz0, hz1, hz2⟩ := info_parts line_info
                have H5 := Lib.hid h5
                clear hstep h1b h2b hO7 hwt7 hgg hcu hdrb h5 c1 c9 c0 hT7 HN7
                have j1 : (1 : Int) < (n : Int) := by omega
                have j2 : (2 : Int) ≤ (n : Int) := by omega
                have j3 : (n : Int) ≤ (c : Int) := by omega
                go_wp2_with fail
                refine wp_region_last (fun w' => w'.cell? ⟨w.heap.size + 1, 1, none⟩ = some (.slice Av L.length cv) ∧ w'.cell? ⟨g, o + 1, none⟩ = some (.string (mkB b))) 11 (by kernel_rfl) ?_
                refine wpAnyL_take (i := 0) (v := ?vm0) rfl (by kernel_rfl) (by kernel_rfl) (by kernel_rfl) (by kernel_rfl) (by kernel_rfl) (fun _ _ _ h => h) hHeld (Or.inl ⟨by rfl, ?ym0⟩) ?rm0
                case ym0 =>
                  intro w hSw
                  (try dsimp only at hSw)
                  go_simp
                  first | done | with_reducible rfl
                try simp only [Act.put, List.getElem_toArray, List.getElem_cons_zero, List.setIfInBounds_toArray, List.set_cons_zero, List.set_cons_succ]
                refine wpAnyL_take (i := 1) (v := ?vm1) rfl (by kernel_rfl) (by kernel_rfl) (by kernel_rfl) (by kernel_rfl) (by kernel_rfl) (fun _ _ _ h => h) hHeld (Or.inl ⟨by rfl, ?ym1⟩) ?rm1
                case ym1 =>
                  intro w hSw
                  (try dsimp only at hSw)
                  go_simp
                  first | done | with_reducible rfl
                try simp only [Act.put, List.getElem_toArray, List.getElem_cons_zero, List.getElem_cons_succ, List.setIfInBounds_toArray, List.set_cons_zero, List.set_cons_succ]
                refine wpAnyL_take (i := 2) (v := ?vm2) rfl (by kernel_rfl) (by kernel_rfl) (by kernel_rfl) (by kernel_rfl) (by kernel_rfl) (fun _ _ _ h => h) hHeld (Or.inl ⟨by rfl, ?ym2⟩) ?rm2
                case ym2 =>
                  intro w hSw
                  (try dsimp only at hSw)
                  go_simp
                  first | done | with_reducible rfl
                try simp only [Act.put, List.getElem_toArray, List.getElem_cons_zero, List.getElem_cons_succ, List.setIfInBounds_toArray, List.set_cons_zero, List.set_cons_succ]
                refine wpAnyL_take (i := 3) (v := ?vm3) rfl (by kernel_rfl) (by kernel_rfl) (by kernel_rfl) (by kernel_rfl) (by kernel_rfl) (fun _ _ _ h => h) hHeld (Or.inl ⟨by rfl, ?ym3⟩) ?rm3
                case ym3 =>
                  intro w hSw
                  (try dsimp only at hSw)
                  go_simp
                  first | done | with_reducible rfl
                try simp only [Act.put, List.getElem_toArray, List.getElem_cons_zero, List.getElem_cons_succ, List.setIfInBounds_toArray, List.set_cons_zero, List.set_cons_succ]
                refine wpAnyL_take (i := 4) (v := ?vm4) rfl (by kernel_rfl) (by kernel_rfl) (by kernel_rfl) (by kernel_rfl) (by kernel_rfl) (fun _ _ _ h => h) hHeld (Or.inl ⟨by rfl, ?ym4⟩) ?rm4
                case ym4 =>
                  intro w hSw
                  (try dsimp only at hSw)
                  go_simp
                  first | done | with_reducible rfl
                try simp only [Act.put, List.getElem_toArray, List.getElem_cons_zero, List.getElem_cons_succ, List.setIfInBounds_toArray, List.set_cons_zero, List.set_cons_succ]
                refine wpAnyL_take (i := 5) (v := ?vm5) rfl (by kernel_rfl) (by kernel_rfl) (by kernel_rfl) (by kernel_rfl) (by kernel_rfl) (fun _ _ _ h => h) hHeld (Or.inl ⟨by rfl, ?ym5⟩) ?rm5
                case ym5 =>
                  intro w hSw
                  (try dsimp only at hSw)
                  go_simp
                  first | done | with_reducible rfl
                try simp only [Act.put, List.getElem_toArray, List.getElem_cons_zero, List.getElem_cons_succ, List.setIfInBounds_toArray, List.set_cons_zero, List.set_cons_succ]
                refine wpAnyL_take (i := 6) (v := ?vm6) rfl (by kernel_rfl) (by kernel_rfl) (by kernel_rfl) (by kernel_rfl) (by kernel_rfl) (fun _ _ _ h => h) hHeld (Or.inl ⟨by rfl, ?ym6⟩) ?rm6
                case ym6 =>
                  intro w hSw
                  (try dsimp only at hSw)
                  go_simp
                  first | done | with_reducible rfl
                try simp only [Act.put, List.getElem_toArray, List.getElem_cons_zero, List.getElem_cons_succ, List.setIfInBounds_toArray, List.set_cons_zero, List.set_cons_succ]
                refine wpAnyL_take (i := 7) (v := ?vm7) rfl (by kernel_rfl) (by kernel_rfl) (by kernel_rfl) (by kernel_rfl) (by kernel_rfl) (fun _ _ _ h => h) hHeld (Or.inl ⟨by rfl, ?ym7⟩) ?rm7
                case ym7 =>
                  intro w hSw
                  (try dsimp only at hSw)
                  go_simp
                  first | done | with_reducible rfl
                try simp only [Act.put, List.getElem_toArray, List.getElem_cons_zero, List.getElem_cons_succ, List.setIfInBounds_toArray, List.set_cons_zero, List.set_cons_succ]
                refine wpAnyL_one (i := 8) (by kernel_rfl) rfl rfl (fun K hK => ?_)
                go_simp
                have hb8 := below_new' w7.drew (.cells #[.string (mkB b), .slice (some ⟨g, o + 2, none⟩) (n - 2) (c - 2)] 62)
                have p1 : (w7.drew.alloc (.cells #[.string (mkB b), .slice (some ⟨g, o + 2, none⟩) (n - 2) (c - 2)] 62)).cell? ⟨w.heap.size + 1, 1, none⟩ = some (.slice Av L.length cv) := cell_of_row _ _ 1 _ _ _ (row_below' (W := w7.drew) H1B.out hb8)
                have p2 : (w7.drew.alloc (.cells #[.string (mkB b), .slice (some ⟨g, o + 2, none⟩) (n - 2) (c - 2)] 62)).cell? ⟨g, o + 1, none⟩ = some (.string (mkB b)) := HC7.out _ hb8
                have hHeld := (show _ ∧ _ from ⟨p1, p2⟩)
                clear hb8 p1 p2
                refine hK.out _ _ (fun _ => hHeld) ?_
                clear hK K
                try simp only [Act.put, List.getElem_toArray, List.getElem_cons_zero, List.getElem_cons_succ, List.setIfInBounds_toArray, List.set_cons_zero, List.set_cons_succ]
                refine wpAnyL_one (i := 9) (by kernel_rfl) rfl rfl (fun K hK => ?_)
                refine wp_append_own _ (.tmp 73) (.tmp 80) 22 rfl w3.heap.size 62 ti (.agg #[.string ⟨#[]⟩, .slice none 0 0]) 2 40 Tryz.underlying22 hi hz0 hz1 hz2 rfl (by decide) (.slice Av L.length cv) L.length (lcells L) rfl (H2B.out.alloc _) ⟨w7.drew.heap.size, 0, none⟩ 1 1 [.string (mkB b), .slice (some ⟨g, o + 2, none⟩) (n - 2) (c - 2)] rfl rfl (cell_two _ _ _ _) (by intro u hu; simp only [List.mem_cons, List.mem_nil_iff, or_false] at hu; rcases hu with rfl | rfl <;> rfl) (by unfold maxLen; omega) (by omega) (by show w3.heap.size ≤ (w7.alloc _).heap.size; rw [World.size_alloc]; omega) ?_
                intro v' w8 hown2 hgrow _
                obtain ⟨A3, c3, hv3, _, _⟩ := ownsRow_slice hown2
                subst hv3
                have hown3 : w8.ownsRow w3.heap.size 62 2 (.slice A3 (L.length + 1) c3) (L ++ [(⟨mkB b, some ⟨g, o + 2, none⟩, c - 2, d :: r⟩ : LX)]).length (lcells (L ++ [(⟨mkB b, some ⟨g, o + 2, none⟩, c - 2, d :: r⟩ : LX)])) := by rw [List.length_append, lcells_append]; unfold lcells LX.cs; simp only [List.flatMap_cons, List.flatMap_nil, List.append_nil]; rw [show (d :: r).length = n - 2 from HDR.out]; exact hown2
                obtain ⟨hO2, hT2⟩ := OwO.line (x := ⟨mkB b, some ⟨g, o + 2, none⟩, c - 2, d :: r⟩) hb4 (show w3.heap.size ≤ w7.drew.heap.size from hz7) (W := w7.drew) H1B.out H2B.out HO5.out HX.out hgrow hown3
                have hb3 := add_box (W := w7.drew) hb4 H1B.out H2B.out hgrow
                have d1 : w8.cell? ⟨w.heap.size + 1, 1, none⟩ = some (.slice Av L.length cv) := cell_of_row w8 _ 1 _ _ _ hb3
                have e1 : w8.frozen? ⟨w.heap.size + 1, 1, none⟩ = false := frozen_of_row w8 _ 1 _ _ hb3
                have d2 : w8.cell? ⟨g, o + 1, none⟩ = some (.string (mkB b)) := HC8.out _ _ hgrow
                have HO2 := Lib.hid hO2
                have HT2 := Lib.hid hT2
                have hHeld := (show _ ∧ _ from ⟨d1, d2⟩)
                clear hO2 hT2 hown2 hown3 hgrow hb3
                refine hK.out _ _ (fun _ => hHeld) ?_
                clear hK K
                try simp only [Act.put, List.getElem_toArray, List.getElem_cons_zero, List.getElem_cons_succ, List.setIfInBounds_toArray, List.set_cons_zero, List.set_cons_succ]
                refine wpAnyL_take (i := 10) (v := ?vm10) rfl (by kernel_rfl) (by kernel_rfl) (by kernel_rfl) (by kernel_rfl) (by kernel_rfl) (fun _ _ _ h => h) hHeld (Or.inl ⟨by rfl, ?ym10⟩) ?rm10
                case ym10 =>
                  intro w hSw
                  (try dsimp only at hSw)
                  go_simp
                  first | done | with_reducible rfl
                try simp only [Act.put, List.getElem_toArray, List.getElem_cons_zero, List.getElem_cons_succ, List.setIfInBounds_toArray, List.set_cons_zero, List.set_cons_succ]
                refine wpAnyL_one (i := 11) (by kernel_rfl) rfl rfl (fun K hK => ?_)
                go_simp
                refine hK.out _ _ (fun h => absurd rfl h) ?_
                clear hK K
                try simp only [Act.put, List.getElem_toArray, List.getElem_cons_zero, List.getElem_cons_succ, List.setIfInBounds_toArray, List.set_cons_zero, List.set_cons_succ]
                refine wpAnyL_done (by kernel_rfl) ?_ _
                go_wp2_with fail
                go_roundw
                case rel => exact ⟨k + 1, by omega, by go_num, _, np, HST.out, HO2.out, by rw [List.length_append]; have := HL.out; simp; omega, HTD.out.trans HT2.out⟩
                case measure => simp [intOf]; omega
    · obtain rfl : k = n := by omega
      have hz := HZ.out
      have hend := HEND.out k (np, lnsX L) (by rw [HN.out]; exact Nat.le_refl _) hst.out
      obtain ⟨A, c, h4, hLi⟩ := hO.slice
      have hbw := HB3.out.trans (hTu.below (n := w.heap.size) (by omega) (by omega) HB3.out.size)
      have hrow2 : wr.heap[w.heap.size]? = some (.cells #[.bool false, .slice none 0 0] 24 (0, 0)) := (hTu.low w.heap.size (by omega) (by omega) (by omega)).trans H2.out
      have c0 : wr.cell? ⟨w.heap.size, 0, none⟩ = some (.bool false) := cell_of_row _ _ 0 _ _ _ hrow2
      have c1 : wr.cell? ⟨w.heap.size, 1, none⟩ = some (.slice none 0 0) := cell_of_row _ _ 1 _ _ _ hrow2
      have f0 : wr.frozen? ⟨w.heap.size, 0, none⟩ = false := frozen_of_row _ _ _ _ _ hrow2
      have f1 : wr.frozen? ⟨w.heap.size, 1, none⟩ = false := frozen_of_row _ _ _ _ _ hrow2
      have d0 : wr.cell? ⟨w.heap.size + 1, 0, none⟩ = some (.bool np) := cell_of_row _ _ 0 _ _ _ h4
      have d1 : wr.cell? ⟨w.heap.size + 1, 1, none⟩ = some (.slice A L.length c) := cell_of_row _ _ 1 _ _ _ h4
      have HE := Lib.hid hend
      have HLI := Lib.hid hLi
      have HR2 := Lib.hid hrow2
      have HBW := Lib.hid hbw
      clear hend h4 hLi hbw hrow2 hO hTu hst hz
      go_wp2_with fail
      have h5 := heap_setCell_same _ _ 1 _ _ (.slice A L.length c) (heap_setCell_same _ _ 0 _ _ (.bool np) HR2.out)
      refine bodyPost_ret (results_cell_tmp rfl _ _ w.heap.size _ #[.bool np, .slice A L.length c] (0, 0) _ (.int .i64 0) rfl rfl h5 Tryz.underlying24 rfl (by kernel_rfl)) rfl ?_
      refine ⟨owV np A L.length c, by rw [HE.out]; rfl, by
        rw [HE.out]
        exact ⟨A, c, L, rfl, HLI.out.other (fun s => by simp) HR2.out (fun j _ hj => (heap_setCell_other _ ⟨w.heap.size, 1, none⟩ j _ hj).trans (heap_setCell_other _ ⟨w.heap.size, 0, none⟩ j _ hj)), rfl⟩, ?_⟩
      exact (HBW.out.setCell (p := ⟨w.heap.size, 0, none⟩) (Nat.le_refl _) _).setCell (p := ⟨w.heap.size, 1, none⟩) (Nat.le_refl _) _
end Go.Proofs.YtkihgbggndikpaaGreatDoor
