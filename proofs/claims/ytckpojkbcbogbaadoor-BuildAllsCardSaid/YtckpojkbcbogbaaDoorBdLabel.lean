/-
  The contract of the document's own label.
-/
import Derived.Test.YtckpojkbcbogbaaDoorBdDepA
import Derived.Test.YtckpojkbcbogbaaDoorRefGlob
namespace Go.Proofs.YtckpojkbcbogbaaDoor
open Go Go.RowKit Go.Shelf Go.Proofs
attribute [local go_sem] Oper.semAt_some

theorem cutC_miss : ∀ (s : Bs), Lib.indexByte s 58 = -1 → cutC s = (s, []) := fun s h => by rw [cutC_at, h]; rfl
theorem named_clear (b : Bs) (h : namedT b = true) : Lib.indexByte b 58 = -1 := by
  have hp : ∀ x ∈ b, plainT x = true := by
    unfold namedT at h
    simp only [Bool.and_eq_true, List.all_eq_true] at h
    exact h.2
  clear h
  induction b with
  | nil => rfl
  | cons x r ih =>
    have hx := hp x (by simp)
    have := ih (fun y hy => hp y (by simp [hy]))
    unfold Lib.indexByte
    have hne : (x == 58) = false := by
      cases e : (x == 58) with
      | false => rfl
      | true => rw [beq_iff_eq] at e; subst e; exact absurd hx (by decide)
    rw [hne, this]; rfl
theorem splitB_len (c : UInt8) : ∀ (l : Bs), ∀ p ∈ splitL c l, p.length ≤ l.length
  | [], p, hp => by simp [splitL] at hp; subst hp; exact Nat.le_refl _
  | b :: r, p, hp => by
    have ih := splitB_len c r
    rw [splitL] at hp
    split at hp
    · rcases List.mem_cons.1 hp with rfl | hp
      · exact Nat.zero_le _
      · exact Nat.le_succ_of_le (ih p hp)
    · cases e : splitL c r with
      | nil => exact absurd e (splitL_ne _ _)
      | cons a q =>
        rw [e] at hp ih
        rcases List.mem_cons.1 hp with rfl | hp
        · exact Nat.succ_le_succ (ih a (by simp))
        · exact Nat.le_succ_of_le (ih p (by simp [hp]))
/-- The document's: two pieces. -/
def labelS (dir s : Bs) : Option Bs := match splitL 58 s with
  | [d, n] => if namedT n && (d.isEmpty || rightB d) then some (if d.isEmpty then dir ++ 58 :: n else s) else none
  | _ => none
theorem labelS_eq (dir s : Bs) : labelS dir s = labelT dir s := by
  by_cases h : Lib.indexByte s 58 = -1
  · unfold labelS labelT
    rw [splitL_miss 58 s h, cutC_miss s h]
    rfl
  · have hge := Lib.indexByte_ge s 58
    obtain ⟨i, hi⟩ : ∃ i : Nat, Lib.indexByte s 58 = i := ⟨(Lib.indexByte s 58).toNat, by omega⟩
    obtain ⟨hil, hsp⟩ := splitL_hit 58 s i hi
    have hc : cutC s = (s.take i, s.drop (i + 1)) := by rw [cutC_at, hi, if_pos (by omega)]; rfl
    have hs : s = s.take i ++ 58 :: s.drop (i + 1) := by
      obtain ⟨h58, _⟩ := Lib.indexByte_some hi
      obtain ⟨_, h5⟩ := List.getElem?_eq_some_iff.1 h58
      have := (List.take_append_drop i s).symm
      rwa [List.drop_eq_getElem_cons hil, h5] at this
    unfold labelS labelT
    rw [hsp, hc]
    by_cases h2 : Lib.indexByte (s.drop (i + 1)) 58 = -1
    · rw [splitL_miss 58 _ h2]
      show (if _ then some _ else none) = _
      cases e : (s.take i).isEmpty with
      | true => rfl
      | false =>
        simp only [Bool.false_eq_true, if_false]
        rw [← hs]
    · have hn : namedT (s.drop (i + 1)) = false := by
        cases e : namedT (s.drop (i + 1)) with
        | false => rfl
        | true => exact absurd (named_clear _ e) h2
      have hge2 := Lib.indexByte_ge (s.drop (i + 1)) 58
      obtain ⟨k, hk⟩ : ∃ k : Nat, Lib.indexByte (s.drop (i + 1)) 58 = k := ⟨(Lib.indexByte (s.drop (i + 1)) 58).toNat, by omega⟩
      obtain ⟨_, hsp2⟩ := splitL_hit 58 _ k hk
      obtain ⟨a, r, har⟩ : ∃ a r, splitL 58 ((s.drop (i + 1)).drop (k + 1)) = a :: r := by
        cases e : splitL 58 ((s.drop (i + 1)).drop (k + 1)) with
        | nil => exact absurd e (splitL_ne _ _)
        | cons a r => exact ⟨a, r, rfl⟩
      rw [hsp2, har, hn]
      rfl

set_option maxRecDepth 100000 in
set_option maxHeartbeats 4000000 in
theorem breflabel_any (dir s : ByteArray) (w : World) (hd : dir.size ≤ 100000) (hs : s.size ≤ 100000) :
    Calls Tryd.prog 84 #[.string dir, .string s] w fun e w' => e = .returned (.tuple #[.string (mkB ((labelT dir.data.toList s.data.toList).getD [])), .bool (labelT dir.data.toList s.data.toList).isSome]) ∧ Below w.heap.size w w' := by
  rw [← labelS_eq]
  obtain ⟨r, hr⟩ : ∃ r, labelS dir.data.toList s.data.toList = r := ⟨_, rfl⟩
  have hlen := splitL_length 58 s.data.toList
  rw [size_listT] at hlen
  have HSP := Lib.hid (refsplit_any s 58 w (by omega))
  obtain ⟨ps, hps⟩ : ∃ ps, splitL 58 s.data.toList = ps := ⟨_, rfl⟩
  have hr2 := hr
  unfold labelS at hr2
  rw [hps] at hr2 HSP hlen
  rw [hr]
  have hsz : ∀ p ∈ ps, p.length ≤ 100000 := fun p hp => by
    have := splitB_len 58 s.data.toList p (by rw [hps]; exact hp)
    rw [size_listT] at this
    omega
  have HR2 := Lib.hid hr2
  clear hr hr2 hps
  go_enter Tryd.func84, Tryd.ntmps84
  go_wp2_with fail
  refine HSP.out.mono ?_
  rintro e w1 ⟨v, rfl, hrow, hb⟩
  obtain ⟨A, c, rfl, _, _⟩ := ownsRow_slice hrow
  have HB := Lib.hid hb; clear hb
  by_cases h2 : ps.length = 2
  · obtain ⟨d, n, rfl⟩ : ∃ d n, ps = [d, n] := by
      match ps, h2 with
      | [d, n], _ => exact ⟨d, n, rfl⟩
    have hR : r = if namedT n && (d.isEmpty || rightB d) then some (if d.isEmpty then dir.data.toList ++ 58 :: n else s.data.toList) else none := HR2.out.symm
    have hdl := hsz d (by simp)
    have hnl := hsz n (by simp)
    obtain ⟨g, c', hv, hgb, hgl⟩ := hrow.form (by simp)
    simp only [Value.slice.injEq] at hv
    obtain ⟨rfl, _, rfl⟩ := hv
    have c0 : w1.cell? ⟨g, 0, none⟩ = some (.string (mkB d)) := by
      have := World.ownsRow.cells hrow (g := g) rfl 0 _ rfl
      rwa [Go.WideShapes.add_plain, Nat.zero_add] at this
    have c1 : w1.cell? ⟨g, 1, none⟩ = some (.string (mkB n)) := by
      have := World.ownsRow.cells hrow (g := g) rfl 1 _ rfl
      rwa [Go.WideShapes.add_plain, Nat.zero_add] at this
    have hnam := brefnamed_any (mkB n) w1 (by rw [mkB_size]; unfold maxLen; omega)
    rw [mkB_data] at hnam
    have hrig := refright_any (mkB d) w1 (by rw [mkB_size]; omega)
    rw [mkB_data] at hrig
    have HNAM := Lib.hid hnam
    have HRIG := Lib.hid hrig
    have HR := Lib.hid hR
    have HROW := Lib.hid hrow
    have hns : (mkB n).size ≤ 100000 := by rw [mkB_size]; exact hnl
    clear hnam hrig hR hrow hsz HSP HR2 h2
    cases hnt : namedT n with
    | false =>
      rw [hnt] at HNAM HR
      have hN : r = none := HR.out
      subst hN
      clear hnt
      go_wp2_with fail
      refine HNAM.out.mono ?_
      rintro e w2 ⟨rfl, rfl⟩
      go_wp2_with fail
      go_ret2
      exact ⟨by rfl, HB.out⟩
    | true =>
      rw [hnt] at HNAM HR
      clear hnt
      by_cases hde : d = []
      · subst hde
        have hN : r = some (dir.data.toList ++ 58 :: n) := HR.out
        subst hN
        have g1 : (!(mkB ([] : Bs)).toList.isEmpty) = false := by rw [ByteArray.toList_eq, mkB_data]; rfl
        have g2 : (mkB ([] : Bs)).toList.isEmpty = true := by rw [ByteArray.toList_eq, mkB_data]; rfl
        have hlb : dir ++ ⟨#[58]⟩ ++ mkB n = mkB (dir.data.toList ++ 58 :: n) := by rw [label_bytes, mkB_data]
        have HLB := Lib.hid hlb; clear hlb
        go_wp2_with fail
        refine HNAM.out.mono ?_
        rintro e w2 ⟨rfl, rfl⟩
        go_wp2_with fail
        go_ret2
        refine ⟨?_, HB.out⟩
        rw [show (some (dir.data.toList ++ 58 :: n)).getD [] = dir.data.toList ++ 58 :: n from rfl, ← HLB.out]
        rfl
      · have g1 : (!(mkB d).toList.isEmpty) = true := by rw [ByteArray.toList_eq, mkB_data]; simpa using hde
        have g2 : (mkB d).toList.isEmpty = false := by rw [ByteArray.toList_eq, mkB_data]; simpa using hde
        have hdi : d.isEmpty = false := by simpa using hde
        rw [hdi] at HR
        clear hde hdi
        go_wp2_with fail
        refine HNAM.out.mono ?_
        rintro e w2 ⟨rfl, rfl⟩
        go_wp2_with fail
        refine HRIG.out.mono ?_
        rintro e w3 ⟨rfl, hb3⟩
        have d0 : w3.cell? ⟨g, 0, none⟩ = some (.string (mkB d)) := hb3.cell (p := ⟨g, 0, none⟩) hgl ▸ c0
        cases hrt : rightB d with
        | false =>
          rw [hrt] at HR
          have hN : r = none := HR.out
          subst hN
          have HB3 := Lib.hid hb3
          clear hrt c0 hb3
          go_wp2_with fail
          go_ret2
          exact ⟨by rfl, HB.out.trans (HB3.out.mono HB.out.size)⟩
        | true =>
          rw [hrt] at HR
          have hN : r = some s.data.toList := HR.out
          subst hN
          have HB3 := Lib.hid hb3
          clear hrt c0 hb3
          go_wp2_with fail
          go_ret2
          refine ⟨?_, HB.out.trans (HB3.out.mono HB.out.size)⟩
          rw [show (some s.data.toList).getD [] = s.data.toList from rfl, data_mkB]
          rfl
  · have g2 : ((ps.length : Int) == 2) = false := by
      have : ¬ (ps.length : Int) = 2 := by omega
      simpa using this
    have g3 : ((ps.length : Int) = 2) = False := by rw [eq_iff_iff]; constructor <;> (intro h; first | omega | exact h.elim)
    have hN : r = none := by
      have := HR2.out
      match ps, h2 with
      | [], _ => exact this.symm
      | [_], _ => exact this.symm
      | [_, _], h2 => exact absurd rfl h2
      | _ :: _ :: _ :: _, _ => exact this.symm
    subst hN
    clear HSP h2
    go_wp2_with fail
    go_ret2
    exact ⟨by rfl, HB.out⟩
end Go.Proofs.YtckpojkbcbogbaaDoor
