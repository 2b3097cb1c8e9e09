/-
  The contract of the document's own Rings.
-/
import Derived.Test.YteigepblocbnlaaGpRefAll
namespace Go.Proofs.Yteigepblocbnlaa.Gp
open Go Go.RowKit Go.Shelf Go.Proofs
attribute [local go_sem] Oper.semAt_some

theorem OI.low {n base : Nat} {w0 w w' : World} {v : Value} {l : List Nat} (h : OI base w v l) (hb : Below n w0 w) (hg : w.grownBy w' v.ownBlock) (hn : n ≤ base) (hs : n ≤ w.heap.size) : Below n w0 w' :=
  hb.grown hg hs (fun k e => Nat.le_trans hn (World.ownsRow.lt h k e).1)
theorem AR.push_int {base N b q c' c : Nat} {m : List EN} {w w' : World} {A A' : Option Addr} {rows l : List Nat} (h : AR base N m w A c rows) (hO : OI b w (.slice A' q c') l) (o : Obj) (hg : (w.alloc o).grownBy w' (blkA A')) : AR base N m w' A c rows := by
  have hk : ∀ (k : Nat) (cs : Array Value) (t : TypeId), t ≠ 3 → w.heap[k]? = some (.cells cs t (0, 0)) → w'.heap[k]? = some (.cells cs t (0, 0)) := fun k cs t ht hw => by
    have hlt := (Array.getElem?_eq_some_iff.1 hw).1
    refine (hg.block k (by rw [World.size_alloc]; omega) fun e => ?_).trans ((((Below.refl w.heap.size w).alloc (Nat.le_refl _) o).block k hlt).trans hw)
    obtain ⟨_, cur, _, hc⟩ := hO.slice.2.2.2.2 k e.symm
    rw [hc] at hw
    exact ht (Obj.cells.inj (Option.some.inj hw)).2.1.symm
  refine ⟨?_, fun i g hi => hk _ _ _ (by decide) (h.row i g hi)⟩
  refine ⟨h.own.1, ?_⟩
  rcases h.own.2 with hn | ⟨g, cap, cur, e, hb, hg', rest⟩
  · exact .inl hn
  · exact .inr ⟨g, cap, cur, e, hb, hk _ _ _ (by decide) hg', rest⟩
set_option maxRecDepth 100000 in
set_option maxHeartbeats 16000000 in
theorem refrings_bad (n : Int) (A : Option Addr) (c : Nat) (l : List EI) (w : World) (hl : EdgesAt w A l) (hm : l.length ≤ 100000) (hr : rightB n l = false) :
    Calls Try.prog 19 #[.int .i64 n, .slice A l.length c] w fun e w' => e = .returned (.slice none 0 0) ∧ w' = w := by
  have HRR := Lib.hid (refright_any n A c l w hl (by omega))
  rw [hr] at HRR
  clear hr
  go_enter Try.func19, Try.ntmps19
  go_wp2_with fail
  refine HRR.out.mono ?_
  rintro e w1 ⟨rfl, hw1⟩
  have hw1 := hw1.symm; subst hw1
  go_wp2_with fail
  go_ret
  exact ⟨rfl, rfl⟩

set_option maxRecDepth 100000 in
set_option maxHeartbeats 16000000 in
theorem refrings_any (N : Nat) (A : Option Addr) (c : Nat) (m : List EN) (w : World) (hl : EdgesAt w A (castE m)) (hm2 : m.length ≤ 100000) (hN : N ≤ 2000) (hm : ∀ e ∈ m, e.1 < N ∧ e.2 < N) (hrt : rightB N (castE m) = true) :
    Calls Try.prog 19 #[.int .i64 N, .slice A m.length c] w fun e w' => ∃ A' c', e = .returned (.slice A' N c') ∧ OI w.heap.size w' (.slice A' N c') (RT N m) ∧ Below w.heap.size w w' := by
  have hrr := refright_any N A c (castE m) w hl (by rw [castE_length]; omega)
  rw [hrt, castE_length] at hrr
  have HRR := Lib.hid hrr
  have HALL := Lib.hid (all_any N A c m w hl hm2 hN hm hrt)
  obtain ⟨R, hR, hRT⟩ := RT_least hm
  obtain ⟨L, hL⟩ : ∃ L, RT N m = L := ⟨_, rfl⟩
  have hLl : L.length = N := by rw [← hL]; exact RT_length N m
  have hLg : ∀ x, x < N → L[x]? = some (R x) := fun x hx => by rw [← hL, hRT]; simp [hx]
  obtain ⟨M, hM⟩ : ∃ M, m.length = M := ⟨_, rfl⟩
  rw [hM] at HRR HALL ⊢
  rw [hL]
  have HR := Lib.hid hR
  have HLL := Lib.hid hLl
  have HLG := Lib.hid hLg
  have HNN := Lib.hid hN
  clear hrr hM hm hrt hm2 hl hR hRT hL hLl hLg
  go_enter Try.func19, Try.ntmps19
  go_wp2_with fail
  refine HRR.out.mono ?_
  rintro e w1 ⟨rfl, hw1⟩
  have hw1 := hw1.symm; subst hw1
  go_wp2_with fail
  refine HALL.out.mono ?_
  rintro e w2 ⟨A2, c2, rows, rfl, hrl, hAR, hb2⟩
  have HAR := Lib.hid hAR
  have HRL := Lib.hid hrl
  have HB2 := Lib.hid hb2
  clear hAR hrl hb2
  go_wp2_with fail
  go_loopw [6, 7] (fun s y wr => ∃ (k q : Nat) (A' : Option Addr) (c' : Nat), k ≤ N ∧ s = .slice A' q c' ∧ y = .int .i64 k ∧ Hid (q = k) ∧ Hid (OI w.heap.size wr (.slice A' q c') (L.take k)) ∧ Hid (AR w.heap.size N m wr A2 c2 rows) ∧ Hid (Below w.heap.size w wr)) (fun _ y _ => N - (intOf y).toNat)
  case atStart => exact ⟨0, 0, none, 0, Nat.zero_le _, rfl, rfl, rfl, OI.nil _ _, HAR.out, HB2.out⟩
  case round =>
    obtain ⟨k, q, A', c', hk, rfl, rfl, HQ, HO, HA, HB⟩ := hrel
    by_cases h1 : k < N
    · have q1 : (k : Int) < (N : Int) := by omega
      have wk : IntKind.i64.wrap (k : Int) = (k : Int) := IntWalk.i64_in _ (by omega)
      have wk1 : IntKind.i64.wrap ((k : Int) + 1) = (k : Int) + 1 := IntWalk.i64_in _ (by omega)
      go_wp2_with fail
      go_loopw [8] (fun y wx => ∃ (j : Nat), j ≤ R k ∧ y = .int .i64 j ∧ wx = wr) (fun y _ => R k - (intOf y).toNat)
      case atStart => exact ⟨0, Nat.zero_le _, rfl, rfl⟩
      case round =>
        obtain ⟨j, hj, rfl, rfl⟩ := hrel
        have hjN : j < N := by have := ((HR.out k h1).1.1.lt).2; omega
        have wj : IntKind.i64.wrap (j : Int) = (j : Int) := IntWalk.i64_in _ (by have := HNN.out; omega)
        have wj1 : IntKind.i64.wrap ((j : Int) + 1) = (j : Int) + 1 := IntWalk.i64_in _ (by have := HNN.out; omega)
        have qj : (j : Int) < (N : Int) := by omega
        obtain ⟨g0, rfl, hrow⟩ := HA.out.get (by have := HRL.out; omega)
        obtain ⟨gk, c1, d1⟩ := hrow k (by have := HRL.out; omega)
        obtain ⟨gj, c3, d3⟩ := hrow j (by have := HRL.out; omega)
        obtain ⟨b1, e1, i1⟩ := RC_rch (N := N) (m := m) (x := k) (y := j) h1 hjN
        obtain ⟨b2, e2, i2⟩ := RC_rch (N := N) (m := m) (x := j) (y := k) hjN h1
        have c2 := d1 _ _ e1
        have c4 := d3 _ _ e2
        have I1 := Lib.hid i1
        have I2 := Lib.hid i2
        clear hrow d1 d3 e1 e2 i1 i2
        unfold rowV at c1 c3
        cases b1 with
        | false =>
          have hlt : j + 1 ≤ R k := by
            rcases Nat.lt_or_ge j (R k) with h | h
            · exact h
            · have : R k = j := by omega
              have h5 := I1.out.2 (by have := (HR.out k h1).1.1; rwa [‹R k = j›] at this)
              cases h5
          go_wp2_with fail
          go_roundw
          case rel => exact ⟨j + 1, hlt, by go_num, by first | rfl | trivial⟩
          case measure => simp [intOf]; omega
        | true =>
          cases b2 with
          | false =>
            have hlt : j + 1 ≤ R k := by
              rcases Nat.lt_or_ge j (R k) with h | h
              · exact h
              · have : R k = j := by omega
                have h5 := I2.out.2 (by have := (HR.out k h1).1.2; rwa [‹R k = j›] at this)
                cases h5
            go_wp2_with fail
            go_roundw
            case rel => exact ⟨j + 1, hlt, by go_num, by first | rfl | trivial⟩
            case measure => simp [intOf]; omega
          | true =>
            have hjR : R k = j := Nat.le_antisymm ((HR.out k h1).2 j ⟨I1.out.1 rfl, I2.out.1 rfl⟩) hj
            have e2 : L.take (k + 1) = L.take k ++ [j] := by rw [List.take_add_one, HLG.out k h1, hjR]; rfl
            have e3 : (L.take k).length = q := by rw [List.length_take, HLL.out, HQ.out]; omega
            have e4 : (L.take (k + 1)).length = k + 1 := by rw [List.length_take, HLL.out]; omega
            have E2 := Lib.hid e2
            have E3 := Lib.hid e3
            have E4 := Lib.hid e4
            clear e2 e3 e4 hjR
            go_wp2_with (at_builtin; go_loud (refine wpList_appI (l := L.take k) (base := w.heap.size) (x := j) (A := A') (c := c') rfl _ _ rfl (by rw [E3.out]; first | done | rfl) (by rw [E3.out]; exact HO.out.below ((Below.refl _ wr).alloc (Nat.le_refl _) _)) rfl (World.alloc_heap_new _ _) (by rw [E3.out, HQ.out]; have := HNN.out; omega) (by rw [World.size_alloc]; have := HB.out.size; omega) _ rfl ?_; intro g8 c8 w8 hown8 hgr8 _; have HOW := Lib.hid hown8; have HLOW := Lib.hid (OI.low (HO.out.below ((Below.refl _ wr).alloc (Nat.le_refl _) (.cells #[vI j] 3))) (HB.out.alloc HB.out.size _) (by rw [own_blk]; exact hgr8) (Nat.le_refl _) (by rw [World.size_alloc]; have := HB.out.size; omega)); have HAR8 := Lib.hid (HA.out.push_int HO.out _ hgr8); clear hown8 hgr8))
            go_roundw
            case rel => exact ⟨k + 1, _, some ⟨g8, 0, none⟩, c8, by omega, rfl, by go_num, by have := HLL.out; show min k L.length + 1 = k + 1; omega, by rw [E2.out]; have h := HOW.out; rw [List.length_append, List.length_take] at h; exact h, HAR8.out, HLOW.out⟩
            case measure => simp [intOf]; omega
    · obtain rfl : k = N := by omega
      have hO2 := HO.out
      rw [List.take_of_length_le (by rw [HLL.out]; exact Nat.le_refl _)] at hO2
      have hq := HQ.out
      subst hq
      have HO2 := Lib.hid hO2
      clear hO2
      go_wp2_with fail
      go_ret
      exact ⟨_, _, rfl, HO2.out, HB.out⟩
end Go.Proofs.Yteigepblocbnlaa.Gp
