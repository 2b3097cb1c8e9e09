/-
  The document's own: the text that a word stands for, walked.
-/
import Derived.Test.YthkbpophckjdnaaDoorRlRefU
import Derived.Test.YthkbpophckjdnaaDoorCaught
import Derived.BigQuiet
import Derived.Deep.RegionHeld3
import Derived.Deep.QuietTactic
import Derived.Deep.Cut
namespace Go.Proofs.YthkbpophckjdnaaDoor
open Go Go.RowKit Go.Shelf Go.Proofs
attribute [local go_sem] Oper.semAt_some

theorem u8_infoR : (Tryd.prog.info? 5).map (fun i => (i.zero, i.size, i.bytes)) = some (some (.int .u8 0), 1, 1) := by kernel_rfl
theorem cell_one_newR (W : World) (a : Value) (t : TypeId) : ∀ (j : Nat) (u : Value), ([a] : List Value)[j]? = some u → (W.alloc (.cells #[a] t)).cell? ((⟨W.heap.size, 0, none⟩ : Addr).add j) = some u := fun j u hj => by
  have hn := heap_alloc_new W (.cells #[a] t)
  rw [Go.WideShapes.add_plain, Nat.zero_add, cell_of_row _ _ _ _ _ _ hn]
  match j, hj with
  | 0, hj => exact hj
  | j + 1, hj => simp at hj
theorem conv_own {w : World} {b : Nat} {v : Value} {l : Bs} (h : w.ownsRow b 5 1 v l.length (Lib.byteCells l)) : (convert 45 9 v).run Tryd.prog w = .ok (.string (mkB l)) w := by
  rcases h.2 with ⟨rfl, h0⟩ | ⟨g, cap, cur, rfl, _⟩
  · obtain rfl : l = [] := List.eq_nil_of_length_eq_zero h0
    exact run_convert_bytes_zero w 45 5 Tryd.underlying45 Tryd.underlying5 none 0 9 Tryd.underlying9
  · refine run_convert_bytes_back w 45 9 5 ⟨g, 0, none⟩ cap l Tryd.underlying45 Tryd.underlying5 Tryd.underlying9 fun j hj => ?_
    exact World.ownsRow.cells h (g := g) rfl _ _ (by simp [Lib.byteCells, hj])

theorem ownsRow_keepR {w w' : World} {base e size n : Nat} {v : Value} {xs : List Value} (h : w.ownsRow base e size v n xs) (hk : ∀ j o, base ≤ j → v.ownBlock = some j → w.heap[j]? = some o → w'.heap[j]? = some o) : w'.ownsRow base e size v n xs := by
  refine ⟨h.1, ?_⟩
  rcases h.2 with hn | ⟨g, cap, cur, rfl, hb, hg, rest⟩
  · exact .inl hn
  · exact .inr ⟨g, cap, cur, rfl, hb, hk g _ hb rfl hg, rest⟩

set_option maxRecDepth 100000 in
set_option maxHeartbeats 16000000 in
theorem refunq_any (s : ByteArray) (w : World) (hs : s.size ≤ 1000000) :
    Calls Tryd.prog 15 #[.string s] w fun e w' => e = .returned (.tuple #[.string (mkB (unqV s.data.toList).1), .bool (unqV s.data.toList).2]) ∧ Below w.heap.size w w' := by
  cases he : s.toList == [37] with
  | true =>
    have hv : unqV s.data.toList = ([], true) := by
      have : s.data.toList = [37] := by rw [← ByteArray.toList_eq]; simpa using he
      rw [this]; rfl
    have HV := Lib.hid hv
    clear hv
    go_enter Tryd.func15, Tryd.ntmps15
    go_wp2_with fail
    go_ret2
    exact ⟨by rw [HV.out]; rfl, Below.refl _ _⟩
  | false =>
    have HU := Lib.hid (unq_text s.data.toList (by rw [← ByteArray.toList_eq]; exact he))
    obtain ⟨u0, hi, hz0, hz1, hz2⟩ := info_parts u8_infoR
    have HI := Lib.hid hi
    clear hi
    go_enter Tryd.func15, Tryd.ntmps15
    go_wp2_with fail
    clear he
    go_loopw [4, 5] (fun v4 v5 wr => ∃ (k : Nat) (out : Bs) (v : Value), k ≤ s.size ∧ v5 = .int .i64 k ∧ v4 = v ∧ Hid (wr.ownsRow w.heap.size 5 1 v out.length (Lib.byteCells out)) ∧ Hid (decU s.data.toList = out ++ decU (s.data.toList.drop k)) ∧ out.length ≤ k ∧ Below w.heap.size w wr) (fun _ v5 _ => s.size - (intOf v5).toNat)
    case atStart => exact ⟨0, [], .slice none 0 0, Nat.zero_le _, rfl, rfl, World.ownsRow_nil _ _ _ _, rfl, Nat.le_refl _, Below.refl _ _⟩
    case round =>
      obtain ⟨k, out, v, hk, rfl, hv, HOW, HD, hol, hbr⟩ := hrel
      have hv' := hv.symm
      subst hv'
      clear hv
      have HBR := Lib.hid hbr
      clear hbr
      have HDG := Lib.hid (fun (x : UInt8) (W : World) => digit_any x W)
      by_cases h1 : k < s.size
      · have k1 : (k : Int) < (s.size : Int) := by omega
        have HSN := Lib.hid (step_none s k h1)
        have wk2 : IntKind.i64.wrap ((k : Int) + 2) = (k : Int) + 2 := IntWalk.i64_in _ (by omega)
        have wk1 : IntKind.i64.wrap ((k : Int) + 1) = (k : Int) + 1 := IntWalk.i64_in _ (by omega)
        by_cases hc : s[k] = 37
        · have q1 : ((s[k].toNat : Int) == 37) = true := by rw [hc]; rfl
          by_cases h2 : k + 2 < s.size
          · have k2 : (k : Int) + 2 < (s.size : Int) := by omega
            have k3 : (k : Int) + 1 < (s.size : Int) := by omega
            cases e1 : isHexL s[k + 1] with
            | false =>
              have DEC := Lib.hid (show decU s.data.toList = (out ++ [s[k]]) ++ decU (s.data.toList.drop (k + 1)) by rw [HD.out, HSN.out (.inr (.inr ⟨h2, .inl e1⟩))]; simp)
              have hv1 : digV s[k + 1] = -1 := by unfold digV; rw [e1]; rfl
              have HD1 := Lib.hid (fun W => digit_any s[k + 1] W)
              rw [hv1] at HD1
              obtain ⟨cb, hcb⟩ : ∃ cb, s[k] = cb := ⟨_, rfl⟩
              rw [hcb] at DEC q1
              obtain ⟨c1, hc1⟩ : ∃ cb, s[k + 1] = cb := ⟨_, rfl⟩
              rw [hc1] at HD1
              clear hc e1 hv1
              go_wp2_with fail
              refine (HD1.out _).mono ?_
              rintro e w2 ⟨rfl, hw2⟩
              subst hw2
              obtain ⟨VV, hVV⟩ : ∃ VV, w2 = VV := ⟨_, rfl⟩
              have HVB := Lib.hid (show Below w.heap.size w VV by rw [← hVV]; exact HBR.out)
              have HOW2 := Lib.hid (show (VV.alloc (.cells #[.int .u8 (cb.toNat : Int)] 5)).ownsRow w.heap.size 5 1 v out.length (Lib.byteCells out) by rw [← hVV]; exact HOW.out.alloc _)
              have HNEW := Lib.hid (fun (j : Nat) (u : Value) (hj : ([.int .u8 (cb.toNat : Int)] : List Value)[j]? = some u) => show (VV.alloc (.cells #[.int .u8 (cb.toNat : Int)] 5)).cell? ((⟨VV.heap.size, 0, none⟩ : Addr).add j) = some u from cell_one_newR VV _ _ j u hj)
              go_upto_region 6 with (at_builtin; go_loud (refine wpList_append_own _ rfl _ _ 45 rfl w.heap.size 5 u0 (.int .u8 0) 1 1 Tryd.underlying45 HI.out hz0 hz1 hz2 rfl (by decide) v out.length (Lib.byteCells out) rfl HOW2.out ⟨VV.heap.size, 0, none⟩ 1 1 [.int .u8 (cb.toNat : Int)] rfl rfl HNEW.out (by intro u hu; rw [List.mem_singleton] at hu; subst hu; rfl) (by unfold maxLen; omega) (by omega) (by rw [World.size_alloc]; have := HVB.out.size; omega) ?_; intro v7 w7 hown7 hgr7 hnil7; have hb7 : Below w.heap.size w w7 := (HVB.out.alloc HVB.out.size _).grown hgr7 (by rw [World.size_alloc]; have := HVB.out.size; omega) (by intro kk hkk; exact (row_ge HOW2.out hkk).1); have HB7 := Lib.hid hb7; have HO7 := Lib.hid hown7; clear hown7 hgr7 hnil7 hb7))
              go_wp2_with fail
              go_roundw
              case rel =>
                refine ⟨k + 1, out ++ [cb], _, by omega, by go_num, rfl, ?_, ?_, by rw [List.length_append, List.length_singleton]; omega, HB7.out⟩
                · have e : Lib.byteCells (out ++ [cb]) = Lib.byteCells out ++ [.int .u8 (cb.toNat : Int)] := by simp [Lib.byteCells]
                  unfold Hid
                  rw [e, List.length_append]
                  exact HO7.out
                · exact DEC.out
              case measure => simp [intOf]; omega
            | true =>
              have l1 := hex_lt _ e1
              have hv1 : digV s[k + 1] = ((hexL s[k + 1]).toNat : Int) := by unfold digV; rw [e1]; rfl
              have HD1 := Lib.hid (fun W => digit_any s[k + 1] W)
              rw [hv1] at HD1
              cases e2 : isHexL s[k + 2] with
              | false =>
                have DEC := Lib.hid (show decU s.data.toList = (out ++ [s[k]]) ++ decU (s.data.toList.drop (k + 1)) by rw [HD.out, HSN.out (.inr (.inr ⟨h2, .inr e2⟩))]; simp)
                have hv2 : digV s[k + 2] = -1 := by unfold digV; rw [e2]; rfl
                have HD2 := Lib.hid (fun W => digit_any s[k + 2] W)
                rw [hv2] at HD2
                obtain ⟨cb, hcb⟩ : ∃ cb, s[k] = cb := ⟨_, rfl⟩
                rw [hcb] at DEC q1
                obtain ⟨c1, hc1⟩ : ∃ cb, s[k + 1] = cb := ⟨_, rfl⟩
                rw [hc1] at HD1 l1
                obtain ⟨c2, hc2⟩ : ∃ cb, s[k + 2] = cb := ⟨_, rfl⟩
                rw [hc2] at HD2
                obtain ⟨p, hp⟩ : ∃ p, (hexL c1).toNat = p := ⟨_, rfl⟩
                rw [hp] at HD1 l1
                have p0 : (0 : Int) ≤ (p : Int) := by omega
                clear hc e1 hv1 e2 hv2 hp
                go_wp2_with fail
                refine (HD1.out _).mono ?_
                rintro e w2 ⟨rfl, hw2⟩
                subst hw2
                go_wp2_with fail
                refine (HD2.out _).mono ?_
                rintro e w3 ⟨rfl, hw3⟩
                subst hw3
                obtain ⟨VV, hVV⟩ : ∃ VV, w3 = VV := ⟨_, rfl⟩
                have HVB := Lib.hid (show Below w.heap.size w VV by rw [← hVV]; exact HBR.out)
                have HOW2 := Lib.hid (show (VV.alloc (.cells #[.int .u8 (cb.toNat : Int)] 5)).ownsRow w.heap.size 5 1 v out.length (Lib.byteCells out) by rw [← hVV]; exact HOW.out.alloc _)
                have HNEW := Lib.hid (fun (j : Nat) (u : Value) (hj : ([.int .u8 (cb.toNat : Int)] : List Value)[j]? = some u) => show (VV.alloc (.cells #[.int .u8 (cb.toNat : Int)] 5)).cell? ((⟨VV.heap.size, 0, none⟩ : Addr).add j) = some u from cell_one_newR VV _ _ j u hj)
                go_upto_region 6 with (at_builtin; go_loud (refine wpList_append_own _ rfl _ _ 45 rfl w.heap.size 5 u0 (.int .u8 0) 1 1 Tryd.underlying45 HI.out hz0 hz1 hz2 rfl (by decide) v out.length (Lib.byteCells out) rfl HOW2.out ⟨VV.heap.size, 0, none⟩ 1 1 [.int .u8 (cb.toNat : Int)] rfl rfl HNEW.out (by intro u hu; rw [List.mem_singleton] at hu; subst hu; rfl) (by unfold maxLen; omega) (by omega) (by rw [World.size_alloc]; have := HVB.out.size; omega) ?_; intro v7 w7 hown7 hgr7 hnil7; have hb7 : Below w.heap.size w w7 := (HVB.out.alloc HVB.out.size _).grown hgr7 (by rw [World.size_alloc]; have := HVB.out.size; omega) (by intro kk hkk; exact (row_ge HOW2.out hkk).1); have HB7 := Lib.hid hb7; have HO7 := Lib.hid hown7; clear hown7 hgr7 hnil7 hb7))
                go_wp2_with fail
                go_roundw
                case rel =>
                  refine ⟨k + 1, out ++ [cb], _, by omega, by go_num, rfl, ?_, ?_, by rw [List.length_append, List.length_singleton]; omega, HB7.out⟩
                  · have e : Lib.byteCells (out ++ [cb]) = Lib.byteCells out ++ [.int .u8 (cb.toNat : Int)] := by simp [Lib.byteCells]
                    unfold Hid
                    rw [e, List.length_append]
                    exact HO7.out
                  · exact DEC.out
                case measure => simp [intOf]; omega
              | true =>
                have l2 := hex_lt _ e2
                have hse := step_esc s k h2 hc e1 e2
                have hv2 : digV s[k + 2] = ((hexL s[k + 2]).toNat : Int) := by unfold digV; rw [e2]; rfl
                have HD2 := Lib.hid (fun W => digit_any s[k + 2] W)
                rw [hv2] at HD2
                have hx := hex_add (hexL s[k + 1]) (hexL s[k + 2]) l1 l2
                obtain ⟨cb, hcb⟩ : ∃ cb, (16 : UInt8) * hexL s[k + 1] + hexL s[k + 2] = cb := ⟨_, rfl⟩
                rw [hcb] at hse hx
                have DEC := Lib.hid (show decU s.data.toList = (out ++ [cb]) ++ decU (s.data.toList.drop (k + 3)) by rw [HD.out, hse]; simp)
                obtain ⟨c0, hc0⟩ : ∃ cb, s[k] = cb := ⟨_, rfl⟩
                rw [hc0] at q1
                obtain ⟨c1, hc1⟩ : ∃ cb, s[k + 1] = cb := ⟨_, rfl⟩
                rw [hc1] at HD1 l1 hx
                obtain ⟨c2, hc2⟩ : ∃ cb, s[k + 2] = cb := ⟨_, rfl⟩
                rw [hc2] at HD2 l2 hx
                obtain ⟨p, hp⟩ : ∃ p, (hexL c1).toNat = p := ⟨_, rfl⟩
                rw [hp] at HD1 l1 hx
                obtain ⟨q, hq⟩ : ∃ q, (hexL c2).toNat = q := ⟨_, rfl⟩
                rw [hq] at HD2 l2 hx
                have p0 : (0 : Int) ≤ (p : Int) := by omega
                have q0 : (0 : Int) ≤ (q : Int) := by omega
                have w16 : IntKind.i64.wrap (16 * (p : Int)) = 16 * (p : Int) := IntWalk.i64_in _ (by omega)
                have w17 : IntKind.i64.wrap (16 * (p : Int) + (q : Int)) = 16 * (p : Int) + (q : Int) := IntWalk.i64_in _ (by omega)
                have hmod : (16 * (p : Int) + (q : Int)) % 256 = (cb.toNat : Int) := by omega
                have w18 : IntKind.u8.wrap (16 * (p : Int) + (q : Int)) = (cb.toNat : Int) := by unfold IntKind.wrap; simp [IntKind.bits, IntKind.signed]; omega
                obtain ⟨m, hm⟩ : ∃ m : Int, 16 * (p : Int) = m := ⟨_, rfl⟩
                rw [hm] at w16 w17 w18 hmod
                obtain ⟨t, ht⟩ : ∃ t : Int, m + (q : Int) = t := ⟨_, rfl⟩
                rw [ht] at w18 hmod
                have w17 : IntKind.i64.wrap (m + (q : Int)) = t := w17.trans ht
                have HM := Lib.hid hm
                have HTT := Lib.hid ht
                clear hm ht
                have wk3 : IntKind.i64.wrap ((k : Int) + 2 + 1) = (k : Int) + 2 + 1 := IntWalk.i64_in _ (by omega)
                obtain ⟨QI, hQI⟩ : ∃ QI : Int, (q : Int) = QI := ⟨_, rfl⟩
                rw [hQI] at HD2 q0 HTT w17
                clear hQI
                clear hc e1 hv1 e2 hv2 hp hq hse hcb hx
                go_wp2_with fail
                refine (HD1.out _).mono ?_
                rintro e w2 ⟨rfl, hw2⟩
                subst hw2
                go_wp2_with fail
                refine (HD2.out _).mono ?_
                rintro e w3 ⟨rfl, hw3⟩
                subst hw3
                go_wp2_with fail
                refine wp_region_held_drew (S := (fun _ => True)) (by kernel_rfl) trivial (fun hHeld => ?_)
                refine wpAnyH_take (i := 0) (v := ?va0) rfl (by kernel_rfl) (by kernel_rfl) (by kernel_rfl) (fun _ _ _ h => h) (Or.inl ⟨by rfl, ?ya0⟩) (by assumption) ?ra0
                case ya0 =>
                  intro w hSw
                  (try dsimp only at hSw)
                  go_simp
                  first | done | with_reducible rfl
                try simp only [Act.put, List.getElem_toArray, List.getElem_cons_zero, List.setIfInBounds_toArray, List.set_cons_zero, List.set_cons_succ]
                refine wpAnyH_take (i := 1) (v := ?va1) rfl (by kernel_rfl) (by kernel_rfl) (by kernel_rfl) (fun _ _ _ h => h) (Or.inl ⟨by rfl, ?ya1⟩) (by assumption) ?ra1
                case ya1 =>
                  intro w hSw
                  (try dsimp only at hSw)
                  go_simp
                  first | done | with_reducible rfl
                try simp only [Act.put, List.getElem_toArray, List.getElem_cons_zero, List.getElem_cons_succ, List.setIfInBounds_toArray, List.set_cons_zero, List.set_cons_succ]
                refine wpAnyH_take (i := 2) (v := ?va2) rfl (by kernel_rfl) (by kernel_rfl) (by kernel_rfl) (fun _ _ _ h => h) (Or.inl ⟨by rfl, ?ya2⟩) (by assumption) ?ra2
                case ya2 =>
                  intro w hSw
                  (try dsimp only at hSw)
                  go_simp
                  first | done | with_reducible rfl
                try simp only [Act.put, List.getElem_toArray, List.getElem_cons_zero, List.getElem_cons_succ, List.setIfInBounds_toArray, List.set_cons_zero, List.set_cons_succ]
                refine wpAnyH_take (i := 3) (v := ?va3) rfl (by kernel_rfl) (by kernel_rfl) (by kernel_rfl) (fun _ _ _ h => h) (Or.inl ⟨by rfl, ?ya3⟩) (by assumption) ?ra3
                case ya3 =>
                  intro w hSw
                  (try dsimp only at hSw)
                  go_simp
                  (try rw [if_pos (by omega)])
                  first | done | with_reducible rfl
                try simp only [Act.put, List.getElem_toArray, List.getElem_cons_zero, List.getElem_cons_succ, List.setIfInBounds_toArray, List.set_cons_zero, List.set_cons_succ]
                refine wpAnyH_take (i := 6) (v := ?va6) rfl (by kernel_rfl) (by kernel_rfl) (by kernel_rfl) (fun _ _ _ h => h) (Or.inl ⟨by rfl, ?ya6⟩) (by assumption) ?ra6
                case ya6 =>
                  intro w hSw
                  (try dsimp only at hSw)
                  go_simp
                  first | done | with_reducible rfl
                try simp only [Act.put, List.getElem_toArray, List.getElem_cons_zero, List.getElem_cons_succ, List.setIfInBounds_toArray, List.set_cons_zero, List.set_cons_succ]
                refine wpAnyH_take (i := 7) (v := ?va7) rfl (by kernel_rfl) (by kernel_rfl) (by kernel_rfl) (fun _ _ _ h => h) (Or.inl ⟨by rfl, ?ya7⟩) (by assumption) ?ra7
                case ya7 =>
                  intro w hSw
                  (try dsimp only at hSw)
                  go_simp
                  first | done | with_reducible rfl
                try simp only [Act.put, List.getElem_toArray, List.getElem_cons_zero, List.getElem_cons_succ, List.setIfInBounds_toArray, List.set_cons_zero, List.set_cons_succ]
                refine wpAnyH_take (i := 8) (v := ?va8) rfl (by kernel_rfl) (by kernel_rfl) (by kernel_rfl) (fun _ _ _ h => h) (Or.inl ⟨by rfl, ?ya8⟩) (by assumption) ?ra8
                case ya8 =>
                  intro w hSw
                  (try dsimp only at hSw)
                  go_simp
                  first | done | with_reducible rfl
                try simp only [Act.put, List.getElem_toArray, List.getElem_cons_zero, List.getElem_cons_succ, List.setIfInBounds_toArray, List.set_cons_zero, List.set_cons_succ]
                refine wpAnyH_take (i := 9) (v := ?va9) rfl (by kernel_rfl) (by kernel_rfl) (by kernel_rfl) (fun _ _ _ h => h) (Or.inl ⟨by rfl, ?ya9⟩) (by assumption) ?ra9
                case ya9 =>
                  intro w hSw
                  (try dsimp only at hSw)
                  go_simp
                  (try rw [if_pos (by omega)])
                  first | done | with_reducible rfl
                try simp only [Act.put, List.getElem_toArray, List.getElem_cons_zero, List.getElem_cons_succ, List.setIfInBounds_toArray, List.set_cons_zero, List.set_cons_succ]
                refine wpAnyH_ready (rs := [4]) (by kernel_rfl) (by simp) ?_
                refine AllReadyH.cons rfl (fun K hK => ?_) AllReadyH.nil
                go_simp
                refine (HD1.out _).mono ?_
                rintro e w6 ⟨rfl, hw6⟩
                rw [hw6]
                clear hw6
                refine hK.out _ _ trivial (fun hHeld => ?_)
                clear hK K
                try simp only [Act.put, List.getElem_toArray, List.getElem_cons_zero, List.getElem_cons_succ, List.setIfInBounds_toArray, List.set_cons_zero, List.set_cons_succ]
                refine wpAnyH_take (i := 5) (v := ?vb5) rfl (by kernel_rfl) (by kernel_rfl) (by kernel_rfl) (fun _ _ _ h => h) (Or.inl ⟨by rfl, ?yb5⟩) (by assumption) ?rb5
                case yb5 =>
                  intro w hSw
                  (try dsimp only at hSw)
                  go_simp
                  try rw [HM.out]
                  try rw [w16]
                  first | done | with_reducible rfl
                try simp only [Act.put, List.getElem_toArray, List.getElem_cons_zero, List.getElem_cons_succ, List.setIfInBounds_toArray, List.set_cons_zero, List.set_cons_succ]
                refine wpAnyH_ready (rs := [10]) (by kernel_rfl) (by simp) ?_
                refine AllReadyH.cons rfl (fun K hK => ?_) AllReadyH.nil
                go_simp
                simp only [show ((k : Int) + 2).toNat = k + 2 from by omega, hc2]
                refine (HD2.out _).mono ?_
                rintro e w6 ⟨rfl, hw6⟩
                rw [hw6]
                clear hw6
                refine hK.out _ _ trivial (fun hHeld => ?_)
                clear hK K
                try simp only [Act.put, List.getElem_toArray, List.getElem_cons_zero, List.getElem_cons_succ, List.setIfInBounds_toArray, List.set_cons_zero, List.set_cons_succ]
                refine wpAnyH_take (i := 11) (v := ?vc11) rfl (by kernel_rfl) (by kernel_rfl) (by kernel_rfl) (fun _ _ _ h => h) (Or.inl ⟨by rfl, ?yc11⟩) (by assumption) ?rc11
                case yc11 =>
                  intro w hSw
                  (try dsimp only at hSw)
                  go_simp
                  first | done | with_reducible rfl
                try simp only [Act.put, List.getElem_toArray, List.getElem_cons_zero, List.getElem_cons_succ, List.setIfInBounds_toArray, List.set_cons_zero, List.set_cons_succ]
                refine wpAnyH_take (i := 12) (v := ?vc12) rfl (by kernel_rfl) (by kernel_rfl) (by kernel_rfl) (fun _ _ _ h => h) (Or.inl ⟨by rfl, ?yc12⟩) (by assumption) ?rc12
                case yc12 =>
                  intro w hSw
                  (try dsimp only at hSw)
                  go_simp
                  first | done | with_reducible rfl
                try simp only [Act.put, List.getElem_toArray, List.getElem_cons_zero, List.getElem_cons_succ, List.setIfInBounds_toArray, List.set_cons_zero, List.set_cons_succ]
                refine wpAnyH_take (i := 13) (v := ?vc13) rfl (by kernel_rfl) (by kernel_rfl) (by kernel_rfl) (fun _ _ _ h => h) (Or.inl ⟨by rfl, ?yc13⟩) (by assumption) ?rc13
                case yc13 =>
                  intro w hSw
                  (try dsimp only at hSw)
                  go_simp
                  first | done | with_reducible rfl
                try simp only [Act.put, List.getElem_toArray, List.getElem_cons_zero, List.getElem_cons_succ, List.setIfInBounds_toArray, List.set_cons_zero, List.set_cons_succ]
                refine wpAnyH_done (by kernel_rfl) ?_ _
                clear hmod w16 w17 w18 p0 q0 l1 l2 k2 k3
                clear HD1 HD2 HDG HSN hHeld
                obtain ⟨VV, hVV⟩ : ∃ VV, w3.drew = VV := ⟨_, rfl⟩
                have HVB := Lib.hid (show Below w.heap.size w VV by rw [← hVV]; exact HBR.out.drew)
                have HOW2 := Lib.hid (show (VV.alloc (.cells #[.int .u8 (cb.toNat : Int)] 5)).ownsRow w.heap.size 5 1 v out.length (Lib.byteCells out) by rw [← hVV]; exact (show (w3.drew).ownsRow w.heap.size 5 1 v out.length (Lib.byteCells out) from HOW.out).alloc _)
                have HNEW := Lib.hid (fun (j : Nat) (u : Value) (hj : ([.int .u8 (cb.toNat : Int)] : List Value)[j]? = some u) => show (VV.alloc (.cells #[.int .u8 (cb.toNat : Int)] 5)).cell? ((⟨VV.heap.size, 0, none⟩ : Addr).add j) = some u from cell_one_newR VV _ _ j u hj)
                go_upto_region 6 with (at_builtin; go_loud (refine wpList_append_own _ rfl _ _ 45 rfl w.heap.size 5 u0 (.int .u8 0) 1 1 Tryd.underlying45 HI.out hz0 hz1 hz2 rfl (by decide) v out.length (Lib.byteCells out) rfl HOW2.out ⟨VV.heap.size, 0, none⟩ 1 1 [.int .u8 (cb.toNat : Int)] rfl rfl HNEW.out (by intro u hu; rw [List.mem_singleton] at hu; subst hu; rfl) (by unfold maxLen; omega) (by omega) (by rw [World.size_alloc]; have := HVB.out.size; omega) ?_; intro v7 w7 hown7 hgr7 hnil7; have hb7 : Below w.heap.size w w7 := (HVB.out.alloc HVB.out.size _).grown hgr7 (by rw [World.size_alloc]; have := HVB.out.size; omega) (by intro kk hkk; exact (row_ge HOW2.out hkk).1); have HB7 := Lib.hid hb7; have HO7 := Lib.hid hown7; clear hown7 hgr7 hnil7 hb7))
                go_wp2_with fail
                go_roundw
                case rel =>
                  refine ⟨k + 3, out ++ [cb], _, by omega, by go_num, rfl, ?_, ?_, by rw [List.length_append, List.length_singleton]; omega, HB7.out⟩
                  · have e : Lib.byteCells (out ++ [cb]) = Lib.byteCells out ++ [.int .u8 (cb.toNat : Int)] := by simp [Lib.byteCells]
                    unfold Hid
                    rw [e, List.length_append]
                    exact HO7.out
                  · exact DEC.out
                case measure => simp [intOf]; omega
          · have k2 : ¬ (k : Int) + 2 < (s.size : Int) := by omega
            have DEC := Lib.hid (show decU s.data.toList = (out ++ [s[k]]) ++ decU (s.data.toList.drop (k + 1)) by rw [HD.out, HSN.out (.inr (.inl (by omega)))]; simp)
            obtain ⟨cb, hcb⟩ : ∃ cb, s[k] = cb := ⟨_, rfl⟩
            rw [hcb] at DEC q1
            clear hc
            obtain ⟨VV, hVV⟩ : ∃ VV, wr = VV := ⟨_, rfl⟩
            have HVB := Lib.hid (show Below w.heap.size w VV by rw [← hVV]; exact HBR.out)
            have HOW2 := Lib.hid (show (VV.alloc (.cells #[.int .u8 (cb.toNat : Int)] 5)).ownsRow w.heap.size 5 1 v out.length (Lib.byteCells out) by rw [← hVV]; exact HOW.out.alloc _)
            have HNEW := Lib.hid (fun (j : Nat) (u : Value) (hj : ([.int .u8 (cb.toNat : Int)] : List Value)[j]? = some u) => show (VV.alloc (.cells #[.int .u8 (cb.toNat : Int)] 5)).cell? ((⟨VV.heap.size, 0, none⟩ : Addr).add j) = some u from cell_one_newR VV _ _ j u hj)
            go_upto_region 6 with (at_builtin; go_loud (refine wpList_append_own _ rfl _ _ 45 rfl w.heap.size 5 u0 (.int .u8 0) 1 1 Tryd.underlying45 HI.out hz0 hz1 hz2 rfl (by decide) v out.length (Lib.byteCells out) rfl HOW2.out ⟨VV.heap.size, 0, none⟩ 1 1 [.int .u8 (cb.toNat : Int)] rfl rfl HNEW.out (by intro u hu; rw [List.mem_singleton] at hu; subst hu; rfl) (by unfold maxLen; omega) (by omega) (by rw [World.size_alloc]; have := HVB.out.size; omega) ?_; intro v7 w7 hown7 hgr7 hnil7; have hb7 : Below w.heap.size w w7 := (HVB.out.alloc HVB.out.size _).grown hgr7 (by rw [World.size_alloc]; have := HVB.out.size; omega) (by intro kk hkk; exact (row_ge HOW2.out hkk).1); have HB7 := Lib.hid hb7; have HO7 := Lib.hid hown7; clear hown7 hgr7 hnil7 hb7))
            go_wp2_with fail
            go_roundw
            case rel =>
              refine ⟨k + 1, out ++ [cb], _, by omega, by go_num, rfl, ?_, ?_, by rw [List.length_append, List.length_singleton]; omega, HB7.out⟩
              · have e : Lib.byteCells (out ++ [cb]) = Lib.byteCells out ++ [.int .u8 (cb.toNat : Int)] := by simp [Lib.byteCells]
                unfold Hid
                rw [e, List.length_append]
                exact HO7.out
              · exact DEC.out
            case measure => simp [intOf]; omega
        · have DEC := Lib.hid (show decU s.data.toList = (out ++ [s[k]]) ++ decU (s.data.toList.drop (k + 1)) by rw [HD.out, HSN.out (.inl hc)]; simp)
          obtain ⟨cb, hcb⟩ : ∃ cb, s[k] = cb := ⟨_, rfl⟩
          rw [hcb] at DEC hc
          have q1 : ((cb.toNat : Int) == 37) = false := by
            rw [beq_eq_false_iff_ne]; intro e; exact hc (UInt8.toNat_inj.1 (by show cb.toNat = 37; omega))
          clear hc
          obtain ⟨VV, hVV⟩ : ∃ VV, wr = VV := ⟨_, rfl⟩
          have HVB := Lib.hid (show Below w.heap.size w VV by rw [← hVV]; exact HBR.out)
          have HOW2 := Lib.hid (show (VV.alloc (.cells #[.int .u8 (cb.toNat : Int)] 5)).ownsRow w.heap.size 5 1 v out.length (Lib.byteCells out) by rw [← hVV]; exact HOW.out.alloc _)
          have HNEW := Lib.hid (fun (j : Nat) (u : Value) (hj : ([.int .u8 (cb.toNat : Int)] : List Value)[j]? = some u) => show (VV.alloc (.cells #[.int .u8 (cb.toNat : Int)] 5)).cell? ((⟨VV.heap.size, 0, none⟩ : Addr).add j) = some u from cell_one_newR VV _ _ j u hj)
          go_upto_region 6 with (at_builtin; go_loud (refine wpList_append_own _ rfl _ _ 45 rfl w.heap.size 5 u0 (.int .u8 0) 1 1 Tryd.underlying45 HI.out hz0 hz1 hz2 rfl (by decide) v out.length (Lib.byteCells out) rfl HOW2.out ⟨VV.heap.size, 0, none⟩ 1 1 [.int .u8 (cb.toNat : Int)] rfl rfl HNEW.out (by intro u hu; rw [List.mem_singleton] at hu; subst hu; rfl) (by unfold maxLen; omega) (by omega) (by rw [World.size_alloc]; have := HVB.out.size; omega) ?_; intro v7 w7 hown7 hgr7 hnil7; have hb7 : Below w.heap.size w w7 := (HVB.out.alloc HVB.out.size _).grown hgr7 (by rw [World.size_alloc]; have := HVB.out.size; omega) (by intro kk hkk; exact (row_ge HOW2.out hkk).1); have HB7 := Lib.hid hb7; have HO7 := Lib.hid hown7; clear hown7 hgr7 hnil7 hb7))
          go_wp2_with fail
          go_roundw
          case rel =>
            refine ⟨k + 1, out ++ [cb], _, by omega, by go_num, rfl, ?_, ?_, by rw [List.length_append, List.length_singleton]; omega, HB7.out⟩
            · have e : Lib.byteCells (out ++ [cb]) = Lib.byteCells out ++ [.int .u8 (cb.toNat : Int)] := by simp [Lib.byteCells]
              unfold Hid
              rw [e, List.length_append]
              exact HO7.out
            · exact DEC.out
          case measure => simp [intOf]; omega
      · obtain rfl : k = s.size := by omega
        have hln : s.data.toList.length = s.size := Array.length_toList
        have hdd : decU s.data.toList = out := by rw [HD.out, List.drop_of_length_le (by omega)]; simp [decU]
        have HUD := Lib.hid (show unquoteL s.data.toList = if quoteL out == s.data.toList then some out else none by rw [HU.out, hdd])
        have HC1 := Lib.hid (fun (W : World) (hW : W.ownsRow w.heap.size 5 1 v out.length (Lib.byteCells out)) => conv_own hW)
        have c1 := conv_own HOW.out
        have c1d : (convert 45 9 v).run Tryd.prog wr = .ok (.string (mkB out)) wr := c1
        have HQ := Lib.hid (refquoteR_any (mkB out) wr (by rw [mkB_size]; omega))
        rw [mkB_data] at HQ
        clear hdd hln HD HU HDG
        go_wp2_with fail
        refine HQ.out.mono ?_
        rintro e w8 ⟨rfl, hb8⟩
        have c2 : (convert 45 9 v).run Tryd.prog w8 = .ok (.string (mkB out)) w8 := conv_own (ownsRow_keepR HOW.out fun j o _ hj ho => (hb8.block j (Array.getElem?_eq_some_iff.1 ho).1).trans ho)
        have hbw := HBR.out.trans (hb8.mono HBR.out.size)
        have HBW := Lib.hid hbw
        clear hb8 hbw c1 c1d
        have hcm : ((mkB (quoteL out)).toList == s.toList) = (quoteL out == s.data.toList) := by rw [ByteArray.toList_eq, ByteArray.toList_eq, mkB_data]
        cases hc : quoteL out == s.data.toList with
        | true =>
          rw [hc] at hcm
          have hcm2 : ((mkB (quoteL out)).toList != s.toList) = false := by rw [bne, hcm]; rfl
          have hv : unqV s.data.toList = (out, true) := by unfold unqV; rw [HUD.out, hc, if_pos rfl]
          have HV := Lib.hid hv
          clear hv hc
          go_wp2_with fail
          go_ret2
          exact ⟨by rw [HV.out]; rfl, HBW.out⟩
        | false =>
          rw [hc] at hcm
          have hcm2 : ((mkB (quoteL out)).toList != s.toList) = true := by rw [bne, hcm]; rfl
          have hv : unqV s.data.toList = ([], false) := by unfold unqV; rw [HUD.out, hc, if_neg (by simp)]
          have HV := Lib.hid hv
          clear hv hc
          go_wp2_with fail
          go_ret2
          exact ⟨by rw [HV.out]; rfl, HBW.out⟩
end Go.Proofs.YthkbpophckjdnaaDoor
