/-
  The contract of the document's own Under, in the words of layer 2.
-/
import Derived.Test.YtedcaodbcognjaaDoorRefGlob
import Derived.Test.YtedcaodbcognjaaDoorTPlain
namespace Go.Proofs.YtedcaodbcognjaaDoor
open Go Go.RowKit Go.Shelf Go.Proofs
attribute [local go_sem] Oper.semAt_some

theorem underL_parts (s d : ByteArray) (hd : d.toList ≠ []) (hl : d.size < s.size) :
    underL s.data.toList d.data.toList = (((s.extract 0 d.size).toList == d.toList) && (((s[d.size]'hl).toNat : Int) == 47)) := by
  have e1 : d.data.toList.length = d.size := Array.length_toList
  have e2 : s.data.toList.length = s.size := Array.length_toList
  have he : d.data.toList.isEmpty = false := by rw [ByteArray.toList_eq] at hd; simpa using hd
  have hk : s.data.toList[d.size]? = some s[d.size] := by rw [List.getElem?_eq_getElem (by omega)]; rfl
  have hsp := drop_some hk
  unfold underL
  rw [he, Bool.false_or, ByteArray.toList_eq, ByteArray.toList_eq, Lib.extract_data, Bool.eq_iff_iff, List.isPrefixOf_iff_prefix, Bool.and_eq_true, beq_iff_eq, beq_iff_eq]
  have h47 : (s[d.size].toNat : Int) = 47 ↔ s[d.size] = 47 := by
    rw [← UInt8.toNat_inj]; show _ ↔ _ = 47; omega
  rw [h47]
  simp only [List.drop_zero, Nat.sub_zero]
  constructor
  · rintro ⟨t, ht⟩
    have h1 : s.data.toList.take d.size = d.data.toList := by rw [← ht, ← e1]; simp
    refine ⟨h1, ?_⟩
    have : s.data.toList[d.size]? = some 47 := by rw [← ht, ← e1]; simp
    rw [hk] at this; exact Option.some.inj this
  · rintro ⟨h1, h2⟩
    refine ⟨s.data.toList.drop (d.size + 1), ?_⟩
    conv => rhs; rw [← List.take_append_drop d.size s.data.toList, hsp, h1, h2]
    simp

set_option maxHeartbeats 2000000 in
theorem refunderL_any (s d : ByteArray) (w : World) (_hs : s.size ≤ 1000000) (hd : d.size ≤ 1000000) :
    Calls Tryd.prog 52 #[.string s, .string d] w fun e w' => e = .returned (.bool (underL s.data.toList d.data.toList)) ∧ w' = w := by
  by_cases h1 : d.toList = []
  · have g1 : d.toList.isEmpty = true := by simp [h1]
    have hr : underL s.data.toList d.data.toList = true := by unfold underL; rw [← ByteArray.toList_eq d, h1]; rfl
    have HR := Lib.hid hr; clear hr h1
    go_enter Tryd.func52, Tryd.ntmps52
    go_wp2_with fail
    go_ret
    exact ⟨ret_bool HR.out.symm, rfl⟩
  · have g1 : d.toList.isEmpty = false := by simpa using h1
    by_cases h2 : d.size < s.size
    · have hr := underL_parts s d h1 h2
      have h3 : (d.size : Int) < (s.size : Int) := by omega
      obtain ⟨b, hb⟩ : ∃ b, s[d.size] = b := ⟨_, rfl⟩
      rw [hb] at hr
      cases c1 : ((s.extract 0 d.size).toList == d.toList) with
      | false =>
        rw [c1] at hr
        have HR := Lib.hid hr; clear hr
        clear h1
        go_enter Tryd.func52, Tryd.ntmps52
        go_wp2_with fail
        go_ret
        exact ⟨ret_bool (by rw [HR.out]; rfl), rfl⟩
      | true =>
        cases c2 : ((b.toNat : Int) == 47) with
        | false =>
          rw [c1, c2] at hr
          have HR := Lib.hid hr; clear hr
          clear h1
          go_enter Tryd.func52, Tryd.ntmps52
          go_wp2_with fail
          go_ret
          exact ⟨ret_bool (by rw [HR.out]; rfl), rfl⟩
        | true =>
          rw [c1, c2] at hr
          have HR := Lib.hid hr; clear hr
          clear h1
          go_enter Tryd.func52, Tryd.ntmps52
          go_wp2_with fail
          go_ret
          exact ⟨ret_bool (by rw [HR.out]; rfl), rfl⟩
    · have hr : underL s.data.toList d.data.toList = false := by
        have e1 : d.data.toList.length = d.size := Array.length_toList
        have e2 : s.data.toList.length = s.size := Array.length_toList
        have he : d.data.toList.isEmpty = false := by rw [ByteArray.toList_eq] at h1; simpa using h1
        unfold underL
        rw [he, Bool.false_or]
        cases e : (d.data.toList ++ [47]).isPrefixOf s.data.toList with
        | false => rfl
        | true =>
          have := (List.isPrefixOf_iff_prefix.1 e).length_le
          simp only [List.length_append, List.length_cons, List.length_nil] at this
          omega
      have h3 : ¬ ((d.size : Int) < (s.size : Int)) := by omega
      have h4 : (s.size : Int) ≤ (d.size : Int) := by omega
      have HR := Lib.hid hr; clear hr h1
      go_enter Tryd.func52, Tryd.ntmps52
      go_wp2_with fail
      go_ret
      exact ⟨ret_bool HR.out.symm, rfl⟩
end Go.Proofs.YtedcaodbcognjaaDoor
