/-
  The law HistoryLast, walked.
-/
import Derived.Test.YtcblhcohgfjafaaDoorHSmall
namespace Go.Proofs.YtcblhcohgfjafaaDoor
open Go Go.RowKit Go.Shelf Go.Proofs Go.ChangeMaps Go.Maps Go.WideMaps
attribute [local go_sem] Oper.semAt_some

/-- What is known while a law commits: some history, of n revisions more than the first. -/
def Some1 (w0 wr : World) (hb n : Nat) (M : Bs → Nat) : Prop := ∃ nm nv cv mb k D, HistAt w0.heap.size wr hb n nm M nv cv mb k D
theorem Some1.below {w0 w w' : World} {hb n : Nat} {M : Bs → Nat} (h : Some1 w0 w hb n M) (hb2 : Below w.heap.size w w') : Some1 w0 w' hb n M := by
  obtain ⟨nm, nv, cv, mb, k, D, h⟩ := h
  exact ⟨nm, nv, cv, mb, k, D, h.below hb2⟩
theorem Some1.last {w0 w : World} {hb n : Nat} {M : Bs → Nat} (h : Some1 w0 w hb n M) (s : ByteArray) (hs : s.size ≤ maxLen) :
    Calls Tryd.prog 12 #[.pointer (some ⟨hb, 0, none⟩), .string s] w fun e w' => e = .returned (.int .i64 (M s.data.toList : Int)) ∧ w' = w := by
  obtain ⟨nm, nv, cv, mb, k, D, h⟩ := h
  exact hlast_any hb mb k D M s hs w (cell_of_row w hb 2 _ _ _ h.heap) h.map h.revs
theorem Some1.head {w0 w : World} {hb n : Nat} {M : Bs → Nat} (h : Some1 w0 w hb n M) :
    Calls Tryd.prog 11 #[.pointer (some ⟨hb, 0, none⟩)] w fun e w' => e = .returned (.int .i64 n) ∧ w' = w := by
  obtain ⟨nm, nv, cv, mb, k, D, h⟩ := h
  obtain ⟨A, c, rfl, _⟩ := h.commit_slice
  exact hhead_any hb A n c w (cell_of_row w hb 1 _ _ _ h.heap)
theorem Some1.since {w0 w : World} {hb n : Nat} {M : Bs → Nat} (h : Some1 w0 w hb n M) (r : Int) (s : ByteArray) (hs : s.size ≤ maxLen) (g c : Nat) (hg : w.cell? ⟨g, 0, none⟩ = some (.string s)) :
    Calls Tryd.prog 15 #[.pointer (some ⟨hb, 0, none⟩), .int .i64 r, .slice (some ⟨g, 0, none⟩) 1 c] w (SincePost (if (M s.data.toList : Int) ≤ r then 0 else 1) w) := by
  obtain ⟨nm, nv, cv, mb, k, D, h⟩ := h
  exact hsince_one w h r ⟨s, hs⟩ g c hg
theorem Some1.le {w0 w : World} {hb n : Nat} {M : Bs → Nat} (h : Some1 w0 w hb n M) (s : Bs) : M s ≤ n := by
  obtain ⟨nm, nv, cv, mb, k, D, h⟩ := h
  exact h.le s
def Commit1 (w0 : World) (hb n : Nat) (M : Bs → Nat) (L : List DX) (w : World) (e : Ending) (w' : World) : Prop :=
  (∃ q : Int, q ≠ 0 ∧ e = .returned (.tuple #[.int .i64 0, .int .i64 q]) ∧ Below w.heap.size w w') ∨
  (e = .returned (.tuple #[.int .i64 ((n + 1 : Nat) : Int), .int .i64 0]) ∧ Some1 w0 w' hb (n + 1) (fun s => if s ∈ (L.map fun x => x.p.data.toList) then n + 1 else M s) ∧ Below w0.heap.size w w')
theorem Some1.commit {w0 w : World} {hb n : Nat} {M : Bs → Nat} (h : Some1 w0 w hb n M) (h0 : Below w0.heap.size w0 w) (hn : n < 100000) (x : LX) (hd : DelsAt w0 x.A x.c x.d) (hs : SmallD x.d) (hm : MaxOk w0) :
    Calls Tryd.prog 9 #[.pointer (some ⟨hb, 0, none⟩), .slice x.A x.d.length x.c] w (Commit1 w0 hb n M x.d w) := by
  obtain ⟨nm, nv, cv, mb, k, D, h⟩ := h
  refine (hcommit_any w0 hb n nm M nv cv mb k D x.d x.A x.c w h h0 hn (DelsKeep.args hd h0 h.lb) hs hm).mono ?_
  rintro e w' (⟨q, hq, _, he, hb2⟩ | ⟨nm', nv', cv', mb', k', D', _, _, he, hH, hb2⟩)
  · exact .inl ⟨q, hq, he, hb2⟩
  · exact .inr ⟨he, ⟨nm', nv', cv', mb', k', D', hH⟩, hb2⟩
theorem Some1.lb {w0 w : World} {hb n : Nat} {M : Bs → Nat} (h : Some1 w0 w hb n M) : w0.heap.size ≤ hb := by
  obtain ⟨nm, nv, cv, mb, k, D, h⟩ := h
  exact h.lb

theorem small_dels {t : List FX} {l : List LX} (h : hsmallL t l = true) {x : LX} (hx : x ∈ l) : SmallD x.d := by
  unfold hsmallL at h
  simp only [Bool.and_eq_true, decide_eq_true_eq] at h
  have h1 := longLN_mem hx
  have h2 := longDN_len x.d
  refine ⟨by omega, fun y hy => ?_⟩
  have h3 := longDN_mem hy
  omega
theorem small_tree {t : List FX} {l : List LX} (h : hsmallL t l = true) : ∀ x ∈ t, x.p.size ≤ 1000000 := fun x hx => by
  unfold hsmallL at h
  simp only [Bool.and_eq_true, decide_eq_true_eq] at h
  obtain ⟨k, hk⟩ := List.getElem?_of_mem hx
  have h1 := longN_snoc hk
  have h2 : longN (t.take (k + 1)) ≤ longN t := by
    have e : longN t = longN (t.take (k + 1)) + longN (t.drop (k + 1)) := by
      unfold longN
      rw [← List.sum_append, ← List.map_append, List.take_append_drop]
    omega
  omega
/-- Was s changed by one of the first k? -/
def hitB (d : List DX) (s : Bs) (k : Nat) : Bool := (d.take k).any fun x => x.p.data.toList == s
theorem hitB_next {d : List DX} {s : Bs} {k : Nat} {x : DX} (hx : d[k]? = some x) : hitB d s (k + 1) = (hitB d s k || (x.p.data.toList == s)) := by
  unfold hitB
  rw [List.take_add_one, hx, List.any_append]
  simp
theorem hitB_all {d : List DX} {s : Bs} {n : Nat} {M : Bs → Nat} : (decide (0 < M s) || hitB d s d.length) = decide (0 < (if s ∈ (d.map fun x => x.p.data.toList) then n + 1 else M s)) := by
  unfold hitB
  rw [List.take_length]
  by_cases h : s ∈ (d.map fun x => x.p.data.toList)
  · rw [if_pos h]
    have e : (d.any fun x => x.p.data.toList == s) = true := by
      obtain ⟨x, hx, e⟩ := List.mem_map.1 h
      rw [List.any_eq_true]
      exact ⟨x, hx, by rw [e]; simp⟩
    rw [e]; simp
  · rw [if_neg h]
    have e : (d.any fun x => x.p.data.toList == s) = false := by
      rw [List.any_eq_false]
      intro x hx e
      exact h (List.mem_map.2 ⟨x, hx, by simpa using e⟩)
    rw [e]; simp

set_option maxRecDepth 100000 in
set_option maxHeartbeats 16000000 in
theorem hlastlaw_any (t : List FX) (l : List LX) (s : ByteArray) (A B : Option Addr) (c d : Nat) (w : World) (ht : TreeAt w A c t) (zt : BigX t) (hl : LRowAt w B d l) (hb : longLN l ≤ 4611686018427387904) (hs : s.size ≤ maxLen) (hm : MaxOk w) :
    Calls Tryd.prog 4 #[.slice A t.length c, .slice B l.length d, .string s] w fun e w' => e = .returned (.bool true) ∧ Below w.heap.size w w' := by
  have HSM := Lib.hid (hsmall_any t l A B c d w ht zt hl hb)
  have HKN := Lib.hid (fun (W : World) (h : Below w.heap.size w W) => hknown_any W (hm.below h))
  have HT := Lib.hid ht
  have HL := Lib.hid hl
  have HM := Lib.hid hm
  have HSZ := Lib.hid hs
  have hcap : l.length ≤ maxLen := Nat.le_trans hl.cap hl.capm
  unfold maxLen at hcap
  clear ht zt hl hb hm
  by_cases hgo : hsmallL t l = true ∧ s.size ≤ 200
  · obtain ⟨h1, h2⟩ := hgo
    have HST := Lib.hid (small_tree h1)
    have HSD := Lib.hid (fun x (hx : x ∈ l) => small_dels h1 hx)
    have h25 : l.length ≤ 25 := by
      unfold hsmallL at h1
      simp only [Bool.and_eq_true, decide_eq_true_eq] at h1
      exact h1.1.2
    have k2 : ¬ (200 : Int) < (s.size : Int) := by omega
    rw [h1] at HSM
    clear h1 h2 hs
    go_enter Tryd.func4, Tryd.ntmps4
    go_wp2_with fail
    refine HSM.out.mono ?_
    rintro e w1 ⟨rfl, hb1⟩
    have HB1 := Lib.hid hb1
    have HNEW := Lib.hid (hnew_any t A c w1 (HT.out.below hb1) HST.out (HM.out.below hb1))
    clear hb1
    go_wp2_with fail
    refine HNEW.out.mono ?_
    intro e w2 hp
    unfold NewPost at hp
    cases hr : rightT (flsX t) with
    | false =>
      rw [if_neg (by rw [hr]; decide)] at hp
      obtain ⟨rfl, hb2⟩ := hp
      have HB2 := Lib.hid (HB1.out.trans (hb2.mono HB1.out.size))
      clear hb2 hr
      go_wp2_with fail
      refine (HKN.out w2 HB2.out).mono ?_
      rintro e w3 ⟨rfl, hb3⟩
      have HB3 := Lib.hid (HB2.out.trans (hb3.mono HB2.out.size))
      clear hb3
      go_wp2_with fail
      go_ret
      exact ⟨rfl, HB3.out⟩
    | true =>
      rw [if_pos hr] at hp
      obtain ⟨hb, nv, cv, mb, k, D, rfl, hH, hb2⟩ := hp
      have hb2' := HB1.out.trans (hb2.mono HB1.out.size)
      have hS : Some1 w w2 hb 0 (fun _ => 0) := by
        refine ⟨_, nv, cv, mb, k, D, hH.heap, hH.names.base HB1.out.size, hH.right, hH.bare, ?_, hH.map, hH.room, hH.revs, hH.le, Nat.le_trans HB1.out.size hH.lb, Nat.le_trans HB1.out.size hH.lm⟩
        obtain ⟨rows, h1, h2⟩ := hH.commits
        refine ⟨rows, h1, ?_⟩
        rcases h2 with h2 | ⟨g, cap, cur, h3, h4, h5⟩
        · exact .inl h2
        · exact .inr ⟨g, cap, cur, h3, Nat.le_trans HB1.out.size h4, h5⟩
      have HS0 := Lib.hid hS
      have HB2 := Lib.hid hb2'
      clear hb2 hb2' hS hH hr HNEW HSM
      go_wp2_with fail
      go_loopw [9, 10] (fun v i wr => ∃ (j n : Nat) (M : Bs → Nat), j ≤ l.length ∧ n ≤ j ∧ i = .int .i64 j ∧ v = .bool (decide (0 < M s.data.toList)) ∧ Some1 w wr hb n M ∧ Below w.heap.size w wr) (fun _ i _ => l.length - (intOf i).toNat)
      case atStart => exact ⟨0, 0, fun _ => 0, Nat.zero_le _, Nat.le_refl _, rfl, rfl, HS0.out, HB2.out⟩
      case round =>
        clear HS0 HB2
        obtain ⟨j, n, M, hj, hnj, rfl, rfl, hS, hbr⟩ := hrel
        have HBR := Lib.hid hbr
        have HS := Lib.hid hS
        clear hbr hS
        by_cases h1 : j < l.length
        · obtain ⟨x, hx⟩ : ∃ x, l[j]? = some x := ⟨_, List.getElem?_eq_getElem h1⟩
          obtain ⟨g, o, hB, hrw⟩ := HL.out.row (by omega)
          have c0 := hrw j x hx
          have hmem := List.mem_of_getElem? hx
          have HCELL := Lib.hid (fun (W : World) (h : Below w.heap.size w W) => (h.cell (p := ⟨g, o + j, none⟩) (World.block_lt_of_cell? w (a := ⟨g, o + j, none⟩) c0)).trans c0)
          have HC := Lib.hid (HS.out.commit HBR.out (by omega) x (HL.out.dels x hmem) (HSD.out x hmem) HM.out)
          have HDX := Lib.hid (HL.out.dels x hmem)
          have HSX := Lib.hid (HSD.out x hmem)
          have hcx : x.d.length ≤ maxLen := Nat.le_trans (HL.out.dels x hmem).cap (HL.out.dels x hmem).capm
          unfold maxLen at hcx
          have c1 := HCELL.out wr HBR.out
          have k1 : (j : Int) < (l.length : Int) := by omega
          have HJL := Lib.hid h1
          have HNJ := Lib.hid hnj
          obtain ⟨b0, hb0⟩ : ∃ b, decide (0 < M s.data.toList) = b := ⟨_, rfl⟩
          rw [hb0]
          have HB0 := Lib.hid hb0
          subst hB
          clear hx hrw hmem hb0 hnj h1 hj
          go_wp2_with fail
          refine HC.out.mono ?_
          intro e w3 hp
          rcases hp with ⟨q, hq, rfl, hb3⟩ | ⟨rfl, hS3, hb3⟩
          · have HB3 := Lib.hid (HBR.out.trans (hb3.mono HBR.out.size))
            have HS3 := Lib.hid (HS.out.below hb3)
            have hq0 : (q == 0) = false := by simpa using hq
            have c3 := HCELL.out w3 HB3.out
            clear hb3 hq c1
            go_wp2_with fail
            go_loopw [9, 13] (fun v i wq => v = .bool b0 ∧ i = .int .i64 0 ∧ wq = w3) (fun _ _ _ => 0)
            case atStart => exact ⟨rfl, rfl, by trivial⟩
            case round =>
              obtain ⟨rfl, rfl, hw⟩ := hrel
              have hw := hw.symm
              subst hw
              by_cases h0 : x.d.length = 0
              · have k0 : ¬ (0 : Int) < (x.d.length : Int) := by omega
                go_wp2_with fail
                go_roundw
                case rel => exact ⟨j + 1, n, M, by have := HJL.out; omega, by have := HNJ.out; omega, by go_num, by rw [HB0.out], HS3.out, HB3.out⟩
                case measure => have := HJL.out; simp [intOf]; omega
              · have k0 : (0 : Int) < (x.d.length : Int) := by omega
                go_wp2_with fail
                go_roundw
                case rel => exact ⟨j + 1, n, M, by have := HJL.out; omega, by have := HNJ.out; omega, by go_num, by rw [HB0.out], HS3.out, HB3.out⟩
                case measure => have := HJL.out; simp [intOf]; omega
          · have HB3 := Lib.hid (HBR.out.trans (hb3.mono (Nat.le_refl _)))
            have HS3 := Lib.hid hS3
            have c3 := HCELL.out w3 HB3.out
            clear hb3 hS3 c1
            go_wp2_with fail
            clear c3
            go_loopw [9, 13] (fun v i wq => ∃ (k : Nat), k ≤ x.d.length ∧ i = .int .i64 k ∧ v = .bool (b0 || hitB x.d s.data.toList k) ∧ Below w3.heap.size w3 wq ∧ Below w.heap.size w wq) (fun _ i _ => x.d.length - (intOf i).toNat)
            case atStart => exact ⟨0, Nat.zero_le _, rfl, by unfold hitB; simp, Below.refl _ _, HB3.out⟩
            case round =>
              obtain ⟨k, hk, rfl, rfl, hbq, hbqw⟩ := hrel
              have c4 := HCELL.out wr hbqw
              by_cases h2 : k < x.d.length
              · obtain ⟨y, hy⟩ : ∃ y, x.d[k]? = some y := ⟨_, List.getElem?_eq_getElem h2⟩
                obtain ⟨g2, o2, hA2, hgl2, _, hcs⟩ := HDX.out.cells hy
                obtain ⟨_, c5, _⟩ := hcs wr (hbqw.block g2 hgl2)
                have hym := List.mem_of_getElem? hy
                have hysz : y.p.size ≤ maxLen := by have := (HSX.out.2 y hym).1; unfold maxLen; omega
                have hSq := HS3.out.below hbq
                have hin : y.p.data.toList ∈ (x.d.map fun x => x.p.data.toList) := List.mem_map_of_mem hym
                have hla := hSq.last y.p hysz
                simp only [if_pos hin] at hla
                have hbx := below_box wr (.cells #[.string y.p] 9)
                have hsi := (hSq.below hbx).since (n : Int) y.p hysz wr.heap.size 1 (cell_of_row _ wr.heap.size 0 _ _ _ (heap_alloc_new wr _))
                have hone : (if (((if y.p.data.toList ∈ (x.d.map fun x => x.p.data.toList) then n + 1 else M y.p.data.toList : Nat) : Int)) ≤ (n : Int) then 0 else 1) = 1 := by rw [if_pos hin, if_neg (by omega)]
                rw [hone] at hsi
                have HLASTY := Lib.hid hla
                have HSINCE := Lib.hid hsi
                have HBW := Lib.hid (hbq.trans (hbx.mono hbq.size))
                have HBWw := Lib.hid (hbqw.trans (hbx.mono hbqw.size))
                have k2 : (k : Int) < (x.d.length : Int) := by omega
                have e1 : wrap64 (n : Int) = (n : Int) := IntWalk.wrap64_in _ (by have := HNJ.out; omega)
                have hnx := hitB_next (s := s.data.toList) hy
                have HKL := Lib.hid h2
                rw [hA2] at c4
                clear hy hA2 hgl2 hcs hym hysz hSq hin hla hbx hsi hone h2 hbq hbqw
                cases hv : (b0 || hitB x.d s.data.toList k) with
                | true =>
                  have HV := Lib.hid hv
                  have HNX := Lib.hid hnx
                  clear hv hnx
                  go_wp2_with fail
                  refine HLASTY.out.mono ?_
                  rintro e w9 ⟨rfl, hw9⟩
                  have hw9 := hw9.symm
                  subst hw9
                  go_wp2_with fail
                  refine HSINCE.out.mono ?_
                  rintro e w5 ⟨A5, c5, rfl, hb5⟩
                  have HB5 := Lib.hid (HBW.out.trans (hb5.mono HBW.out.size))
                  have HB5w := Lib.hid (HBWw.out.trans (hb5.mono HBWw.out.size))
                  clear hb5
                  go_wp2_with fail
                  go_roundw
                  case rel => exact ⟨k + 1, by have := HKL.out; omega, by go_num, by rw [HNX.out, ← Bool.or_assoc, HV.out]; rfl, HB5.out, HB5w.out⟩
                  case measure => have := HKL.out; simp [intOf]; omega
                | false =>
                  cases heq : (y.p.toList == s.toList) with
                  | true =>
                    have HV := Lib.hid hv
                    have HNX := Lib.hid hnx
                    have HEQ := Lib.hid heq
                    clear hv hnx
                    go_wp2_with fail
                    refine HLASTY.out.mono ?_
                    rintro e w9 ⟨rfl, hw9⟩
                    have hw9 := hw9.symm
                    subst hw9
                    go_wp2_with fail
                    refine HSINCE.out.mono ?_
                    rintro e w5 ⟨A5, c5, rfl, hb5⟩
                    have HB5 := Lib.hid (HBW.out.trans (hb5.mono HBW.out.size))
                    have HB5w := Lib.hid (HBWw.out.trans (hb5.mono HBWw.out.size))
                    clear hb5
                    go_wp2_with fail
                    go_roundw
                    case rel => exact ⟨k + 1, by have := HKL.out; omega, by go_num, by rw [HNX.out, ← Bool.or_assoc, HV.out]; first | rfl | (rw [ByteArray.toList_eq, ByteArray.toList_eq] at heq; simp [heq]), HB5.out, HB5w.out⟩
                    case measure => have := HKL.out; simp [intOf]; omega
                  | false =>
                    have HV := Lib.hid hv
                    have HNX := Lib.hid hnx
                    have HEQ := Lib.hid heq
                    clear hv hnx
                    go_wp2_with fail
                    refine HLASTY.out.mono ?_
                    rintro e w9 ⟨rfl, hw9⟩
                    have hw9 := hw9.symm
                    subst hw9
                    go_wp2_with fail
                    refine HSINCE.out.mono ?_
                    rintro e w5 ⟨A5, c5, rfl, hb5⟩
                    have HB5 := Lib.hid (HBW.out.trans (hb5.mono HBW.out.size))
                    have HB5w := Lib.hid (HBWw.out.trans (hb5.mono HBWw.out.size))
                    clear hb5
                    go_wp2_with fail
                    go_roundw
                    case rel => exact ⟨k + 1, by have := HKL.out; omega, by go_num, by rw [HNX.out, ← Bool.or_assoc, HV.out]; first | rfl | (rw [ByteArray.toList_eq, ByteArray.toList_eq] at heq; simp [heq]), HB5.out, HB5w.out⟩
                    case measure => have := HKL.out; simp [intOf]; omega
              · obtain rfl : k = x.d.length := by omega
                have k2 : ¬ (x.d.length : Int) < (x.d.length : Int) := by omega
                have hall := hitB_all (d := x.d) (s := s.data.toList) (n := n) (M := M)
                have HALL := Lib.hid hall
                have HBQ := Lib.hid hbq
                have HBQW := Lib.hid hbqw
                clear hall hbq hbqw
                go_wp2_with fail
                go_roundw
                case rel => exact ⟨j + 1, n + 1, _, by have := HJL.out; omega, by have := HNJ.out; omega, by go_num, by rw [← HALL.out, HB0.out], HS3.out.below HBQ.out, HBQW.out⟩
                case measure => have := HJL.out; simp [intOf]; omega
        · obtain rfl : j = l.length := by omega
          have k1 : ¬ (l.length : Int) < (l.length : Int) := by omega
          have hla := HS.out.last s HSZ.out
          have hle := HS.out.le s.data.toList
          have hhd := HS.out.head
          have hbx := below_box wr (.cells #[.string s] 9)
          have hsi := (HS.out.below hbx).since (n : Int) s HSZ.out wr.heap.size 1 (cell_of_row _ wr.heap.size 0 _ _ _ (heap_alloc_new wr _))
          have hzero : (if ((M s.data.toList : Nat) : Int) ≤ (n : Int) then 0 else 1) = 0 := by rw [if_pos (by omega)]
          rw [hzero] at hsi
          have HLA2 := Lib.hid (fun (W : World) (h : Below wr.heap.size wr W) => (HS.out.below h).last s HSZ.out)
          have HHD2 := Lib.hid (fun (W : World) (h : Below wr.heap.size wr W) => (HS.out.below h).head)
          generalize M s.data.toList = m at *
          have HLA := Lib.hid hla
          have HHD := Lib.hid hhd
          have HSI := Lib.hid hsi
          have HBX := Lib.hid hbx
          have k3 : (m : Int) ≤ (n : Int) := by omega
          have hmm : decide ((0 : Int) < (m : Int)) = decide (0 < m) := by
            by_cases h : 0 < m
            · rw [decide_eq_true h, decide_eq_true (by omega)]
            · rw [decide_eq_false h, decide_eq_false (by omega)]
          have HMM := Lib.hid hmm
          clear hla hhd hsi hbx hzero hle hmm h1 hj hnj
          go_wp2_with fail
          refine HLA.out.mono ?_
          rintro e w9 ⟨rfl, hw9⟩
          have hw9 := hw9.symm
          subst hw9
          go_wp2_with fail
          refine HHD.out.mono ?_
          rintro e w9 ⟨rfl, hw9⟩
          have hw9 := hw9.symm
          subst hw9
          go_wp2_with fail
          refine HSI.out.mono ?_
          rintro e w5 ⟨A5, c5, rfl, hb5⟩
          have HB5 := Lib.hid (HBX.out.trans (hb5.mono HBX.out.size))
          clear hb5
          go_wp2_with fail
          refine (HLA2.out w5 HB5.out).mono ?_
          rintro e w9 ⟨rfl, hw9⟩
          have hw9 := hw9.symm
          subst hw9
          go_wp2_with fail
          refine (HHD2.out w5 HB5.out).mono ?_
          rintro e w9 ⟨rfl, hw9⟩
          have hw9 := hw9.symm
          subst hw9
          go_wp2_with fail
          refine (HKN.out w5 (HBR.out.trans (HB5.out.mono HBR.out.size))).mono ?_
          rintro e w6 ⟨rfl, hb6⟩
          have HB6 := Lib.hid (HBR.out.trans ((HB5.out.trans (hb6.mono HB5.out.size)).mono HBR.out.size))
          clear hb6
          go_wp2_with fail
          go_ret
          exact ⟨rfl, HB6.out⟩
  · have hfalse : hsmallL t l = true → ¬ s.size ≤ 200 := fun h1 h2 => hgo ⟨h1, h2⟩
    go_enter Tryd.func4, Tryd.ntmps4
    go_wp2_with fail
    refine HSM.out.mono ?_
    rintro e w1 ⟨rfl, hb1⟩
    have HB1 := Lib.hid hb1
    clear hb1
    cases h1 : hsmallL t l with
    | false =>
      clear hfalse hgo h1 HSM
      go_wp2_with fail
      refine (HKN.out w1 HB1.out).mono ?_
      rintro e w3 ⟨rfl, hb3⟩
      have HB3 := Lib.hid (HB1.out.trans (hb3.mono HB1.out.size))
      clear hb3
      go_wp2_with fail
      go_ret
      exact ⟨rfl, HB3.out⟩
    | true =>
      have k2 : (200 : Int) < (s.size : Int) := by have := hfalse h1; omega
      clear hfalse hgo h1 HSM hs
      go_wp2_with fail
      refine (HKN.out w1 HB1.out).mono ?_
      rintro e w3 ⟨rfl, hb3⟩
      have HB3 := Lib.hid (HB1.out.trans (hb3.mono HB1.out.size))
      clear hb3
      go_wp2_with fail
      go_ret
      exact ⟨rfl, HB3.out⟩
end Go.Proofs.YtcblhcohgfjafaaDoor
