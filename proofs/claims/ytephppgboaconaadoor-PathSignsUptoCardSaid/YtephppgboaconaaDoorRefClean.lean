/-
  The contracts of the document's own answers: Joined, Clean.
-/
import Derived.Test.YtephppgboaconaaDoorCleanLaws
import Derived.Test.YtephppgboaconaaDoorRefSplit
namespace Go.Proofs.YtephppgboaconaaDoor
open Go Go.RowKit Go.Shelf Go.Proofs
attribute [local go_sem] Oper.semAt_some

theorem joinL_snoc (P : List Bs) (p : Bs) (h : P ≠ []) : joinL (P ++ [p]) = joinL P ++ 47 :: p := by
  induction P with
  | nil => exact absurd rfl h
  | cons a r ih =>
    cases r with
    | nil => rw [List.cons_append, List.nil_append, joinL_cons _ _ (by simp)]; unfold joinL; rw [Lib.join_one, Lib.join_one]
    | cons b q =>
      rw [List.cons_append, joinL_cons _ _ (by simp), ih (by simp), joinL_cons _ (b :: q) (by simp)]; simp
theorem joinL_one (p : Bs) : joinL [p] = p := by unfold joinL; rw [Lib.join_one]
theorem joinL_nil : joinL [] = [] := by unfold joinL; rw [Lib.join_nil]

/-- The cells of a slice of strings, from block g on, read L. -/
def RowS (g : Nat) (L : List Bs) (w : World) : Prop := ∀ j p, L[j]? = some p → w.cell? ⟨g, j, none⟩ = some (.string (mkB p))
theorem rowS_of {w : World} {b g n cap : Nat} {L : List Bs} (h : w.ownsRow b 9 1 (.slice (some ⟨g, 0, none⟩) n cap) n (strVs L)) : RowS g L w := fun j p hp => by
  have := h.cells (g := g) rfl j (.string (mkB p)) (by unfold strVs strV; rw [List.getElem?_map, hp]; rfl)
  unfold Addr.add at this
  split at this
  · rename_i hz; subst hz; exact this
  · simpa using this

theorem take_snocL (L : List Bs) (k : Nat) (p : Bs) (h : L[k]? = some p) : L.take (k + 1) = L.take k ++ [p] := by
  rw [List.take_add_one, h]; rfl

set_option maxHeartbeats 2000000 in
theorem refjoined_row (g cap : Nat) (L : List Bs) (w : World) (hr : RowS g L w) (hw : wide L ≤ 1200000) :
    Calls Tryd.prog 29 #[.slice (some ⟨g, 0, none⟩) L.length cap] w fun e w' => e = .returned (.string (mkB (joinL L))) ∧ w' = w := by
  have hl := wide_length L
  obtain ⟨n, hn⟩ : ∃ n, L.length = n := ⟨_, rfl⟩
  rw [hn] at hl ⊢
  have HR := Lib.hid hr; clear hr
  go_enter Tryd.func29, Tryd.ntmps29
  go_wp2_with fail
  go_loop [3, 4] (fun v i => ∃ (k : Nat) (t : ByteArray), k ≤ n ∧ i = .int .i64 k ∧ v = .string t ∧ Hid (t = mkB (joinL (L.take k)))) (fun _ i => n - (intOf i).toNat)
  case atStart => exact ⟨0, ⟨#[]⟩, Nat.zero_le _, rfl, rfl, by unfold Hid; rw [List.take_zero, joinL_nil]; rfl⟩
  case round =>
    obtain ⟨k, t, hk, rfl, rfl, ht⟩ := hrel
    by_cases hlt : k < n
    · have hkl : k < L.length := by omega
      obtain ⟨p, hp⟩ : ∃ p, L[k] = p := ⟨_, rfl⟩
      have hp? : L[k]? = some p := by rw [List.getElem?_eq_getElem hkl, hp]
      have hcell := HR.out k p hp?
      have hts := take_snocL L k p hp?
      have hwt := wide_take L (k + 1)
      have hjt := join_le (L.take (k + 1))
      have hj1 := join_le (L.take k)
      have hw1 := wide_take L k
      have htl : t.size ≤ 1200000 := by rw [ht.out, mkB_size]; omega
      obtain ⟨x, hx⟩ : ∃ x, mkB p = x := ⟨_, rfl⟩
      have hxl : x.size ≤ 1200000 := by
        rw [← hx, mkB_size]
        have : wide (L.take (k + 1)) = wide (L.take k) + (p.length + 1) := by rw [hts, wide_append]; simp [wide]
        omega
      rw [hx] at hcell
      have hpx : p = x.data.toList := by rw [← hx, mkB_data]
      clear hwt hjt hj1 hw1
      by_cases h0 : k = 0
      · subst h0
        have hres : t ++ x = mkB (joinL (L.take 1)) := by
          rw [hts, ht.out, List.take_zero, joinL_nil, List.nil_append, joinL_one, hpx, data_mkB, ← data_mkB (mkB [] ++ x)]
          simp only [ByteArray.data_append, Array.toList_append, mkB_data, List.nil_append, data_mkB]
        have HX := Lib.hid hres; clear hres
        have HP := Lib.hid hp?; clear hp?
        clear hts hp hx hpx
        go_wp2_with fail
        go_round
        case rel => exact ⟨1, _, by omega, by go_num, rfl, HX.out⟩
        case measure => simp [intOf]; omega
      · have hk0 : (0 : Int) < (k : Int) := by omega
        have hne : L.take k ≠ [] := fun e => by
          have := congrArg List.length e
          rw [List.length_take, List.length_nil] at this
          omega
        have hres : t ++ ⟨#[47]⟩ ++ x = mkB (joinL (L.take (k + 1))) := by
          rw [hts, joinL_snoc _ _ hne, ht.out, hpx, ← data_mkB (mkB (joinL (L.take k)) ++ ⟨#[47]⟩ ++ x)]
          simp only [ByteArray.data_append, Array.toList_append, mkB_data]
          simp
        have HX := Lib.hid hres; clear hres
        have HP := Lib.hid hp?; clear hp?
        clear hts hp hx hpx hne
        go_wp2_with fail
        go_round
        case rel => exact ⟨k + 1, _, by omega, by go_num, rfl, HX.out⟩
        case measure => simp [intOf]; omega
    · have hk2 : k = n := by omega
      have hres : t = mkB (joinL L) := by rw [ht.out, List.take_of_length_le (by omega)]
      subst hk2
      have HX := Lib.hid hres; clear hres ht
      go_wp2_with fail
      go_ret
      exact ⟨by rw [HX.out]; rfl, rfl⟩

set_option maxHeartbeats 1000000 in
theorem refjoined_none (w : World) :
    Calls Tryd.prog 29 #[.slice none 0 0] w fun e w' => e = .returned (.string (mkB (joinL []))) ∧ w' = w := by
  go_enter Tryd.func29, Tryd.ntmps29
  go_wp2_with fail
  refine wp_loop_rounds 1 ?_
  rw [rounds_succ]
  go_wp2_with fail
  go_ret
  exact ⟨by rw [joinL_nil]; rfl, rfl⟩

theorem refjoined_own (b : Nat) (v : Value) (L : List Bs) (w : World) (h : w.ownsRow b 9 1 v L.length (strVs L)) (hw : wide L ≤ 1200000) :
    Calls Tryd.prog 29 #[v] w fun e w' => e = .returned (.string (mkB (joinL L))) ∧ w' = w := by
  rcases h.2 with ⟨rfl, h0⟩ | ⟨g, cp, cur, rfl, _⟩
  · obtain rfl : L = [] := List.eq_nil_of_length_eq_zero h0
    exact refjoined_none w
  · exact refjoined_row g cp L w (rowS_of h) hw

theorem not_beq_nil (x : ByteArray) (h : x.toList.isEmpty = false) : (x.data.toList == []) = false := by
  rw [← ByteArray.toList_eq, beq_eq_false_iff_ne]; rintro e; rw [e] at h; cases h
theorem step_empty (ns : List Bs) (x : ByteArray) (h : x.toList.isEmpty = true) : stepN ns x.data.toList = some ns := by
  rw [← ByteArray.toList_eq]
  have : x.toList = [] := by simpa using h
  rw [this]; rfl
theorem step_dot (ns : List Bs) (x : ByteArray) (h : (x.toList == [46]) = true) : stepN ns x.data.toList = some ns := by
  rw [← ByteArray.toList_eq, beq_iff_eq.1 h]; rfl
theorem step_up (ns : List Bs) (x : ByteArray) (h : (x.toList == [46, 46]) = true) : stepN ns x.data.toList = if ns.isEmpty then none else some ns.dropLast := by
  rw [← ByteArray.toList_eq, beq_iff_eq.1 h]; rfl
theorem step_name (ns : List Bs) (x : ByteArray) (h1 : x.toList.isEmpty = false) (h2 : (x.toList == [46]) = false) (h3 : (x.toList == [46, 46]) = false) : stepN ns x.data.toList = some (ns ++ [x.data.toList]) := by
  have e1 := not_beq_nil x h1
  rw [ByteArray.toList_eq] at h2 h3
  unfold stepN
  rw [h3, e1, h2]; rfl
theorem rowS_below {g : Nat} {L : List Bs} {w w' : World} {n : Nat} (h : RowS g L w) (hb : Below n w w') (hg : g < n) : RowS g L w' := fun j p hp =>
  (hb.cell (p := ⟨g, j, none⟩) hg).trans (h j p hp)

set_option maxRecDepth 100000 in
set_option maxHeartbeats 8000000 in
theorem refclean_any (s : ByteArray) (w : World) (hs : s.size ≤ 1000000) :
    Calls Tryd.prog 13 #[.string s] w fun e w' => e = .returned (cleanV s.data.toList) ∧ Below w.heap.size w w' := by
  obtain ⟨i0, hi, hz0, hz1, hz2⟩ := info_parts string_info
  have hl : s.data.toList.length = s.size := Array.length_toList
  have hlen := splitL_length 47 s.data.toList
  obtain ⟨L, hL⟩ : ∃ L, splitL 47 s.data.toList = L := ⟨_, rfl⟩
  have hX : piecesB 47 s = L.map mkB := by rw [← hL]; rfl
  have hno : ∀ k, sweepTo s k = none → cleanV s.data.toList = .tuple #[.string ⟨#[]⟩, .int .i64 4] := fun k h => by
    unfold cleanV cleanB; rw [sweepN_take _ k h]
  have hyes : ∀ ns, sweepTo s L.length = some ns → cleanV s.data.toList = if rightB (joinL ns) then .tuple #[.string (mkB (joinL ns)), .int .i64 0] else .tuple #[.string ⟨#[]⟩, .int .i64 4] := fun ns h => by
    refine cleanV_some _ ns ?_
    unfold sweepTo at h; rw [hL, List.take_length] at h; rw [hL]; exact h
  have hne : L.length ≠ 0 := fun e => splitL_ne 47 s.data.toList (by rw [hL]; exact List.eq_nil_of_length_eq_zero e)
  obtain ⟨n, hn⟩ : ∃ n, L.length = n + 1 := ⟨L.length - 1, by omega⟩
  obtain ⟨cv, hcv⟩ : ∃ cv, cleanV s.data.toList = cv := ⟨_, rfl⟩
  rw [hcv] at hno hyes
  rw [hcv]
  rw [hL] at hlen
  have HNO := Lib.hid hno; clear hno
  have HYES := Lib.hid hyes; clear hyes
  clear hcv
  have HXX := Lib.hid hX; clear hX
  go_enter Tryd.func13, Tryd.ntmps13
  go_wp2_with fail
  refine (refsplit_any s 47 _ (by omega)).mono ?_
  rintro e w1 ⟨v, rfl, hrow0, hb1⟩
  rw [hL, hn] at hrow0
  obtain ⟨g, cap, rfl⟩ := ownsRow_succ hrow0
  have hR0 := rowS_of hrow0
  have hg1 : w.heap.size ≤ g ∧ g < w1.heap.size := by
    obtain ⟨h1, cur, h2⟩ := row_ge hrow0 rfl
    exact ⟨h1, (Array.getElem?_eq_some_iff.1 h2).1⟩
  have HR := Lib.hid hR0; clear hR0 hrow0
  have HL := Lib.hid hL; clear hL
  go_wp2_with fail
  go_loopw [5, 6] (fun v i wr => ∃ (k : Nat) (ns : List Bs), k ≤ n + 1 ∧ i = .int .i64 k ∧ wr.ownsRow w1.heap.size 9 1 v ns.length (strVs ns) ∧ Below w1.heap.size w1 wr ∧ Hid (sweepTo s k = some ns)) (fun _ i _ => n + 1 - (intOf i).toNat)
  case atStart => exact ⟨0, [], Nat.zero_le _, rfl, World.ownsRow_nil _ _ _ _, Below.refl _ _, rfl⟩
  case round =>
    obtain ⟨k, ns, hk, rfl, hrow, hbr, hsw⟩ := hrel
    have hW : w1.heap.size ≤ wr.heap.size := hbr.size
    have hbb : Below w.heap.size w wr := hb1.trans (hbr.mono hb1.size)
    have hkl := sweepTo_length s k ns hsw.out
    by_cases hlt : k < n + 1
    · have hkL : k < L.length := by omega
      obtain ⟨p, hp⟩ : ∃ p, L[k] = p := ⟨_, rfl⟩
      have hp? : L[k]? = some p := by rw [List.getElem?_eq_getElem hkL, hp]
      have hcell := rowS_below HR.out hbr hg1.2 k p hp?
      obtain ⟨x, hx⟩ : ∃ x, mkB p = x := ⟨_, rfl⟩
      have hxX : (piecesB 47 s)[k]? = some x := by rw [HXX.out, List.getElem?_map, hp?]; simp [hx]
      have hst := sweepTo_succ s k x ns hxX hsw.out
      rw [hx] at hcell
      clear hp hp? hx hxX
      cases c1 : x.toList.isEmpty with
      | true =>
        have hs2 := step_empty ns x c1
        rw [← hst] at hs2
        have HS := Lib.hid hs2; clear hs2 hst
        go_wp2_with fail
        go_roundw
        case rel => exact ⟨k + 1, ns, by omega, by go_num, hrow, hbr, HS.out⟩
        case measure => simp [intOf]; omega
      | false =>
        cases c2 : (x.toList == [46]) with
        | true =>
          have hs2 := step_dot ns x c2
          rw [← hst] at hs2
          have HS := Lib.hid hs2; clear hs2 hst
          go_wp2_with fail
          go_roundw
          case rel => exact ⟨k + 1, ns, by omega, by go_num, hrow, hbr, HS.out⟩
          case measure => simp [intOf]; omega
        | false =>
          cases c3 : (x.toList == [46, 46]) with
          | true =>
            have hs2 := step_up ns x c3
            rw [← hst] at hs2
            rcases List.eq_nil_or_concat ns with rfl | ⟨ms, q, rfl⟩
            · obtain ⟨a, cp, rfl, _, _⟩ := ownsRow_slice hrow
              have HS := Lib.hid (HNO.out (k + 1) hs2); clear hs2 hst
              have HROW := Lib.hid hrow; clear hrow
              go_wp2_with fail
              go_ret2
              exact ⟨by rw [HS.out]; rfl, hbb⟩
            · simp only [List.concat_eq_append] at hrow hs2 hkl
              have hml : (ms ++ [q]).length = ms.length + 1 := by simp
              have hdl : (if (ms ++ [q]).isEmpty = true then none else some (ms ++ [q]).dropLast) = some ms := by simp
              rw [hdl] at hs2
              rw [hml] at hrow hkl
              obtain ⟨g2, cp, rfl⟩ := ownsRow_succ hrow
              obtain ⟨_, _, hvv, hcp, hcm⟩ := ownsRow_slice hrow
              cases hvv
              have hpop := ownsRow_pop (size := 1) (xs := strVs ms) (last := [strV q]) (n := ms.length) (by simp [strVs]) (by simpa [strVs] using hrow)
              have HS := Lib.hid hs2; clear hs2 hst hdl
              have HP := Lib.hid hpop; clear hpop
              have HROW := Lib.hid hrow; clear hrow
              have HN := Lib.hid hml; clear hml
              have hcm' : cp ≤ 9223372036854775807 := hcm
              clear hcm
              go_wp2_with fail
              go_roundw
              case rel => exact ⟨k + 1, ms, by omega, by go_num, HP.out, hbr, HS.out⟩
              case measure => simp [intOf]; omega
          | false =>
            have hs2 := step_name ns x c1 c2 c3
            rw [← hst] at hs2
            have HS := Lib.hid hs2; clear hs2 hst
            go_wp2_with (at_builtin; refine wpList_append_own _ rfl _ _ 32 rfl w1.heap.size 9 i0 (.string ⟨#[]⟩) 1 16 Tryd.underlying32 hi hz0 hz1 hz2 rfl (by decide) _ _ _ rfl (hrow.alloc _) ⟨wr.heap.size, 0, none⟩ 1 1 [.string x] rfl rfl (cell_one_new _ _ _) (by simp [Value.oneCell']) (by unfold maxLen; omega) (by omega) (by simp; omega) ?_; intro v' w2 hown' hgrow _)
            go_roundw
            case rel =>
              refine ⟨k + 1, ns ++ [x.data.toList], by omega, by go_num, ?_, hbr.trans (((Below.refl _ _).alloc hW _).grown hgrow (by simp; omega) fun j ej => (row_ge hrow ej).1), HS.out⟩
              have e2 : strVs (ns ++ [x.data.toList]) = strVs ns ++ [.string x] := by simp [strVs, strV, data_mkB]
              rw [e2, List.length_append]; exact hown'
            case measure => simp [intOf]; omega
    · have hk2 : k = L.length := by omega
      have hy := HYES.out ns (by rw [← hk2]; exact hsw.out)
      have hjl := join_le ns
      have hj2 : (mkB (joinL ns)).size ≤ 1100000 := by rw [mkB_size]; omega
      have HJ := Lib.hid hj2; clear hj2
      cases hr : rightB (joinL ns) with
      | false =>
        have hr2 : rightB (mkB (joinL ns)).data.toList = false := by rw [mkB_data]; exact hr
        rw [hr] at hy
        have HR2 := Lib.hid hr2; clear hr2
        have HY := Lib.hid hy; clear hy hr
        go_wp2_with fail
        refine (refjoined_own w1.heap.size _ ns _ hrow (by omega)).mono ?_
        rintro e w2 ⟨rfl, hw2⟩
        have hw2 := hw2.symm; subst hw2
        go_wp2_with fail
        refine (refright_any (mkB (joinL ns)) _ HJ.out).mono ?_
        rintro e w2 ⟨rfl, hb2⟩
        rw [HR2.out]
        have hb3 := hbb.trans (hb2.mono hbb.size)
        go_wp2_with fail
        go_ret2
        exact ⟨by rw [HY.out]; rfl, hb3⟩
      | true =>
        have hr2 : rightB (mkB (joinL ns)).data.toList = true := by rw [mkB_data]; exact hr
        rw [hr] at hy
        have HR2 := Lib.hid hr2; clear hr2
        have HY := Lib.hid hy; clear hy hr
        go_wp2_with fail
        refine (refjoined_own w1.heap.size _ ns _ hrow (by omega)).mono ?_
        rintro e w2 ⟨rfl, hw2⟩
        have hw2 := hw2.symm; subst hw2
        go_wp2_with fail
        refine (refright_any (mkB (joinL ns)) _ HJ.out).mono ?_
        rintro e w2 ⟨rfl, hb2⟩
        rw [HR2.out]
        have hb3 := hbb.trans (hb2.mono hbb.size)
        go_wp2_with fail
        go_ret2
        exact ⟨by rw [HY.out]; rfl, hb3⟩
end Go.Proofs.YtephppgboaconaaDoor
