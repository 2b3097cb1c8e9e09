/-
  The contract of the reader's act dep. (gen_bddep.py)
-/
import Derived.Test.YtckpojkbcbogbaaDoorBdSrc
import Derived.Test.YtckpojkbcbogbaaDoorBdWordsOf
import Derived.BigQuiet
namespace Go.Proofs.YtckpojkbcbogbaaDoor
open Go Go.RowKit Go.Shelf Go.Proofs
attribute [local go_sem] Oper.semAt_some

theorem cutC_at : ∀ l : Bs, cutC l = if 0 ≤ Lib.indexByte l 58 then (l.take (Lib.indexByte l 58).toNat, l.drop ((Lib.indexByte l 58).toNat + 1)) else (l, [])
  | [] => by simp [cutC, Lib.indexByte]
  | b :: r => by
    have ih := cutC_at r
    have hge := Lib.indexByte_ge r 58
    unfold Lib.indexByte
    by_cases hb : (b == 58) = true
    · have hc : cutC (b :: r) = ([], r) := by
        rw [beq_iff_eq] at hb
        unfold cutC; rw [List.takeWhile_cons, List.dropWhile_cons, if_neg (by simp [hb]), if_neg (by simp [hb])]; rfl
      rw [hc, if_pos hb]; rfl
    · have hc : cutC (b :: r) = (b :: (cutC r).1, (cutC r).2) := by
        unfold cutC
        rw [List.takeWhile_cons, List.dropWhile_cons, if_pos (by simpa using hb), if_pos (by simpa using hb)]
      rw [hc, if_neg hb, ih]
      by_cases h : Lib.indexByte r 58 = -1
      · rw [h]; simp
      · rw [if_neg (show ¬ (Lib.indexByte r 58 == -1) = true by simpa using h), if_pos (by omega), if_pos (by omega), show (Lib.indexByte r 58 + 1).toNat = (Lib.indexByte r 58).toNat + 1 from by omega, List.take_succ_cons, List.drop_succ_cons]
theorem cutC_cut (l : Bs) : ((Lib.cut l [58]).1, (Lib.cut l [58]).2.1) = cutC l := by
  unfold Lib.cut
  rw [Lib.index_one, cutC_at]
  split <;> rfl
theorem cutC_len (l : Bs) : (cutC l).1.length ≤ l.length ∧ (cutC l).2.length ≤ l.length := by
  unfold cutC
  refine ⟨(List.takeWhile_prefix _).length_le, ?_⟩
  rw [List.length_drop]
  have := (List.dropWhile_suffix (l := l) (fun c => c != 58)).length_le
  omega
theorem depT_bad (dir : Bs) (l : List Tg) (t : Bs) (h : (!l.isEmpty && (namedT (cutC t).2 && ((cutC t).1.isEmpty || rightB (cutC t).1))) = false) : depT dir l t = .error 11 := by
  unfold depT
  cases hl : l.isEmpty with
  | true => rfl
  | false =>
    rw [hl, Bool.not_false, Bool.true_and] at h
    unfold labelT
    rw [h]; rfl
theorem depT_good (dir : Bs) (M : List TX) (x : TX) (t p : Bs) (A : Option Addr) (c : Nat) (h : labelT dir t = some p) : depT dir (tgsX (M ++ [x])) t = .ok (tgsX (M ++ [{ x with B := A, b := c, d := x.d ++ [p] }])) := by
  unfold depT
  rw [tgsX_snoc, tgsX_snoc, h]
  have e : (tgsX M ++ [x.tg]).isEmpty = false := by cases tgsX M <;> rfl
  rw [e]
  show Except.ok (lastM _ _) = _
  rw [lastM_snocB]
  simp [TX.tg]
theorem label_bytes (d n : ByteArray) : d ++ ⟨#[58]⟩ ++ n = mkB (d.data.toList ++ 58 :: n.data.toList) := by
  apply ByteArray.ext
  simp [mkB, ByteArray.data_append]

set_option maxRecDepth 100000 in
set_option maxHeartbeats 8000000 in
theorem bdep_any (base R m : Nat) (dir : ByteArray) (L : List TX) (K : List Bs) (t : ByteArray) (W : World) (h : RdO base R m dir L K W) (hK : K = (tgsX L).map (·.n)) (hl : ∀ x ∈ L, x.d.length ≤ 100000) (hR : R < base) (hm : m < base) (hbase : base ≤ W.heap.size) (hd : dir.size ≤ 100000) (ht : t.size ≤ 100000) (hM : MaxOk W) :
    Calls Tryd.prog 63 #[.pointer (some ⟨R, 0, none⟩), .string t] W (ActPost base R m dir (depT dir.data.toList (tgsX L) t.data.toList) W) := by
  have hM0 := hM
  obtain ⟨_, _, mx, hmx⟩ := hM0
  obtain ⟨D, hD⟩ : ∃ D, mkB (cutC t.data.toList).1 = D := ⟨_, rfl⟩
  obtain ⟨N, hN⟩ : ∃ N, mkB (cutC t.data.toList).2 = N := ⟨_, rfl⟩
  have hDl : D.data.toList = (cutC t.data.toList).1 := by rw [← hD, mkB_data]
  have hNl : N.data.toList = (cutC t.data.toList).2 := by rw [← hN, mkB_data]
  have hDs : D.size ≤ 100000 := by
    have := (cutC_len t.data.toList).1
    rw [← hDl, size_listT, size_listT] at this; omega
  have hNs : N.size ≤ 100000 := by
    have := (cutC_len t.data.toList).2
    rw [← hNl, size_listT, size_listT] at this; omega
  have hc1 : (⟨(Lib.cut t.data.toList (ByteArray.mk #[58]).data.toList).1.toArray⟩ : ByteArray) = D := by
    rw [← hD, ← cutC_cut]; rfl
  have hc2 : (⟨(Lib.cut t.data.toList (ByteArray.mk #[58]).data.toList).2.1.toArray⟩ : ByteArray) = N := by
    rw [← hN, ← cutC_cut]; rfl
  have HC1 := Lib.hid hc1
  have HC2 := Lib.hid hc2
  have HDL := Lib.hid hDl
  have HNL := Lib.hid hNl
  have HCUT := Lib.hid (Tryd.strings_Cut t ⟨#[58]⟩ mx W (by omega) hmx)
  have HRI := Lib.hid (fun q => right_any D (W.drewN q) (by unfold maxLen; omega) (show MaxOk (W.drewN q) from hM))
  have HNA := Lib.hid (fun w => bnamed_any N w (by unfold maxLen; omega))
  obtain ⟨f, hf⟩ : ∃ f, (Lib.cut t.data.toList (ByteArray.mk #[58]).data.toList).2.2 = f := ⟨_, rfl⟩
  clear hD hN hDl hNl hc1 hc2 hmx
  have hbq : ∀ q, Below W.heap.size W (W.drewN q) := fun q => ⟨rfl, rfl, rfl, Nat.le_refl _, fun _ _ => rfl⟩
  have HBQ := Lib.hid hbq; clear hbq
  rcases List.eq_nil_or_concat L with rfl | ⟨M, x, rfl⟩
  · obtain ⟨A, c, h1, _⟩ := h.box
    have c0 : W.cell? ⟨R, 0, none⟩ = some (.pointer none) := by
      have := cell_of_row W R 0 _ _ _ h1
      simpa [endA] using this
    have HH := Lib.hid h
    have HN := Lib.hid (depT_bad dir.data.toList (tgsX []) t.data.toList rfl)
    clear h h1 hl hK
    go_enter Tryd.func63, Tryd.ntmps63
    go_wp2_with fail
    refine HCUT.out.mono ?_
    rintro e w' ⟨rfl, q, rfl⟩
    rw [HC1.out, HC2.out]
    go_wp2_with fail
    go_ret
    exact ⟨11, [], K, rfl, HH.out.below (HBQ.out q), TurnR.of_below (HBQ.out q), .inl ⟨by decide, HN.out⟩⟩
  · rw [List.concat_eq_append] at *
    obtain ⟨A, c, h1, h2⟩ := h.box
    rw [show (M ++ [x]).length = M.length + 1 from by simp] at h1 h2
    obtain ⟨g, c', hv, hgb, hgl⟩ := h2.form (by omega)
    simp only [Value.slice.injEq, true_and] at hv
    obtain ⟨rfl, rfl⟩ := hv
    rw [show endA (some ⟨g, 0, none⟩) (M.length + 1) = some ⟨g, M.length * 3, none⟩ from by simp [endA]] at h1
    have HH := Lib.hid h
    have H1 := Lib.hid h1
    have H2 := Lib.hid h2
    have HK := Lib.hid hK
    have hxl := hl x (by simp)
    have hne : (tgsX (M ++ [x])).isEmpty = false := by rw [tgsX_snoc]; cases tgsX M <;> rfl
    have HNE := Lib.hid hne
    have h0q : ∀ w', Below W.heap.size W w' → w'.cell? ⟨R, 0, none⟩ = some (.pointer (some ⟨g, M.length * 3, none⟩)) ∧ w'.cell? ⟨R, 1, none⟩ = some (.string dir) := fun w' hb => ⟨cell_of_row w' R 0 _ _ _ (row_belowB H1.out hb), cell_of_row w' R 1 _ _ _ (row_belowB H1.out hb)⟩
    have H0Q := Lib.hid h0q
    clear h h1 h2 hK hl hne h0q
    by_cases hde : D.toList = []
    · have g1 : (!D.toList.isEmpty) = false := by simp [hde]
      have g2 : D.toList.isEmpty = true := by simp [hde]
      have hde2 : (cutC t.data.toList).1 = [] := by rw [← HDL.out, ← ByteArray.toList_eq, hde]
      have HDE := Lib.hid hde2
      clear hde hde2
      go_enter Tryd.func63, Tryd.ntmps63
      go_wp2_with fail
      refine HCUT.out.mono ?_
      rintro e w' ⟨rfl, q, rfl⟩
      have hb := HBQ.out q
      obtain ⟨w2, hw2⟩ : ∃ w2, W.drewN q = w2 := ⟨_, rfl⟩
      rw [hw2] at hb ⊢
      rw [HC1.out, HC2.out]
      obtain ⟨c0, c1⟩ := H0Q.out w2 hb
      have HB := Lib.hid hb
      clear hw2 hb
      go_wp2_with fail
      refine (HNA.out w2).mono ?_
      rintro e w3 ⟨rfl, rfl⟩
      cases hnt : namedT N.data.toList with
      | false =>
        have HNT := Lib.hid hnt; clear hnt
        go_wp2_with fail
        go_ret
        exact ⟨11, M ++ [x], K, rfl, HH.out.below HB.out, TurnR.of_below HB.out, .inl ⟨by decide, depT_bad _ _ _ (by rw [← HNL.out, HNT.out, Bool.false_and, Bool.and_false])⟩⟩
      | true =>
        have hlab : labelT dir.data.toList t.data.toList = some (dir.data.toList ++ 58 :: N.data.toList) := by
          unfold labelT
          rw [HDE.out, ← HNL.out, hnt]; rfl
        have HLAB := Lib.hid hlab
        have hb := HB.out
        have hbd : Below W.heap.size W w3.drew := hb.drew
        have hs2 : W.heap.size ≤ w3.heap.size := hb.size
        have hh2 : RdO base R m dir (M ++ [x]) K w3.drew := HH.out.below hbd
        have h1d : w3.drew.heap[R]? = some (.cells #[.pointer (some ⟨g, M.length * 3, none⟩), .string dir, .slice (some ⟨g, 0, none⟩) (M.length + 1) c, .map (some m)] 70 (0, 0)) := row_belowB H1.out hbd
        have h2d : w3.drew.ownsRow base 37 3 (.slice (some ⟨g, 0, none⟩) (M.length + 1) c) (M.length + 1) (gcells (M ++ [x])) := ownsRow_keepA H2.out fun j o _ _ ho => row_belowB ho hbd
        obtain ⟨hL, _⟩ := hh2.last M x rfl
        obtain ⟨_, cur, hgc⟩ := row_ge h2d (g := g) rfl
        have hxg := no_textB hL.d hgc
        have hxb : ∀ j, blkA x.B = some j → base ≤ j := fun j hj => (row_ge hL.d ((own_blk _ _ _).trans hj)).1
        have hcu : cur[M.length * 3 + 2]? = some (.slice x.B x.d.length x.b) := by
          have a := (gcells_at (M ++ [x]) M.length x (by simp)).2.2
          have b := World.ownsRow.cells h2d (g := g) rfl _ _ a
          rw [Go.WideShapes.add_plain, Nat.zero_add] at b
          rw [cell_of_row w3.drew g _ _ _ _ hgc] at b
          exact b
        have k1 : w3.cell? ⟨R, 0, none⟩ = some (.pointer (some ⟨g, M.length * 3, none⟩)) := cell_of_row w3 R 0 _ _ _ h1d
        have k2 : w3.cell? ⟨g, M.length * 3 + 2, none⟩ = some (.slice x.B x.d.length x.b) := (cell_of_row w3 g _ _ _ _ hgc).trans hcu
        have hHeld := (show _ ∧ _ from ⟨k1, k2⟩)
        obtain ⟨si, hi, hz0, hz1, hz2⟩ := info_parts string_info
        have HH2 := Lib.hid hh2
        have H1D := Lib.hid h1d
        have H2D := Lib.hid h2d
        have HL := Lib.hid hL
        have HGC := Lib.hid hgc
        have HCU := Lib.hid hcu
        have HXG := Lib.hid hxg
        have HXB := Lib.hid hxb
        have HI := Lib.hid hi
        have HZ0 := Lib.hid hz0
        have HBD := Lib.hid hbd
        clear hh2 h1d h2d hL hgc hcu hxg hxb hb hi hz0 hbd hnt hlab
        go_wp2_with fail
        refine wp_region_last (fun w' => w'.cell? ⟨R, 0, none⟩ = some (.pointer (some ⟨g, M.length * 3, none⟩)) ∧ w'.cell? ⟨g, M.length * 3 + 2, none⟩ = some (.slice x.B x.d.length x.b)) 19 (by kernel_rfl) ?_
        refine wpAnyL_take (i := 0) (v := ?ve0) rfl (by kernel_rfl) (by kernel_rfl) (by kernel_rfl) (by kernel_rfl) (by kernel_rfl) (fun _ _ _ h => h) hHeld (Or.inl ⟨by rfl, ?ye0⟩) ?re0
        case ye0 =>
          intro w hSw
          (try dsimp only at hSw)
          go_simp
          first | done | with_reducible rfl | (rw [if_neg (by omega)])
        try simp only [Act.put, List.getElem_toArray, List.getElem_cons_zero, List.setIfInBounds_toArray, List.set_cons_zero, List.set_cons_succ]
        refine wpAnyL_take (i := 1) (v := ?ve1) rfl (by kernel_rfl) (by kernel_rfl) (by kernel_rfl) (by kernel_rfl) (by kernel_rfl) (fun _ _ _ h => h) hHeld (Or.inl ⟨by rfl, ?ye1⟩) ?re1
        case ye1 =>
          intro w hSw
          (try dsimp only at hSw)
          go_simp
          first | done | with_reducible rfl | (rw [if_neg (by omega)])
        try simp only [Act.put, List.getElem_toArray, List.getElem_cons_zero, List.getElem_cons_succ, List.setIfInBounds_toArray, List.set_cons_zero, List.set_cons_succ]
        refine wpAnyL_take (i := 2) (v := ?ve2) rfl (by kernel_rfl) (by kernel_rfl) (by kernel_rfl) (by kernel_rfl) (by kernel_rfl) (fun _ _ _ h => h) hHeld (Or.inl ⟨by rfl, ?ye2⟩) ?re2
        case ye2 =>
          intro w hSw
          (try dsimp only at hSw)
          go_simp
          first | done | with_reducible rfl | (rw [if_neg (by omega)])
        try simp only [Act.put, List.getElem_toArray, List.getElem_cons_zero, List.getElem_cons_succ, List.setIfInBounds_toArray, List.set_cons_zero, List.set_cons_succ]
        refine wpAnyL_take (i := 3) (v := ?ve3) rfl (by kernel_rfl) (by kernel_rfl) (by kernel_rfl) (by kernel_rfl) (by kernel_rfl) (fun _ _ _ h => h) hHeld (Or.inl ⟨by rfl, ?ye3⟩) ?re3
        case ye3 =>
          intro w hSw
          (try dsimp only at hSw)
          go_simp
          first | done | with_reducible rfl | (rw [if_neg (by omega)])
        try simp only [Act.put, List.getElem_toArray, List.getElem_cons_zero, List.getElem_cons_succ, List.setIfInBounds_toArray, List.set_cons_zero, List.set_cons_succ]
        refine wpAnyL_take (i := 4) (v := ?ve4) rfl (by kernel_rfl) (by kernel_rfl) (by kernel_rfl) (by kernel_rfl) (by kernel_rfl) (fun _ _ _ h => h) hHeld (Or.inl ⟨by rfl, ?ye4⟩) ?re4
        case ye4 =>
          intro w hSw
          (try dsimp only at hSw)
          go_simp
          first | done | with_reducible rfl | (rw [if_neg (by omega)])
        try simp only [Act.put, List.getElem_toArray, List.getElem_cons_zero, List.getElem_cons_succ, List.setIfInBounds_toArray, List.set_cons_zero, List.set_cons_succ]
        refine wpAnyL_take (i := 5) (v := ?ve5) rfl (by kernel_rfl) (by kernel_rfl) (by kernel_rfl) (by kernel_rfl) (by kernel_rfl) (fun _ _ _ h => h) hHeld (Or.inl ⟨by rfl, ?ye5⟩) ?re5
        case ye5 =>
          intro w hSw
          (try dsimp only at hSw)
          go_simp
          first | done | with_reducible rfl | (rw [if_neg (by omega)])
        try simp only [Act.put, List.getElem_toArray, List.getElem_cons_zero, List.getElem_cons_succ, List.setIfInBounds_toArray, List.set_cons_zero, List.set_cons_succ]
        refine wpAnyL_take (i := 6) (v := ?ve6) rfl (by kernel_rfl) (by kernel_rfl) (by kernel_rfl) (by kernel_rfl) (by kernel_rfl) (fun _ _ _ h => h) hHeld (Or.inl ⟨by rfl, ?ye6⟩) ?re6
        case ye6 =>
          intro w hSw
          (try dsimp only at hSw)
          go_simp
          first | done | with_reducible rfl | (rw [if_neg (by omega)])
        try simp only [Act.put, List.getElem_toArray, List.getElem_cons_zero, List.getElem_cons_succ, List.setIfInBounds_toArray, List.set_cons_zero, List.set_cons_succ]
        refine wpAnyL_take (i := 7) (v := ?ve7) rfl (by kernel_rfl) (by kernel_rfl) (by kernel_rfl) (by kernel_rfl) (by kernel_rfl) (fun _ _ _ h => h) hHeld (Or.inl ⟨by rfl, ?ye7⟩) ?re7
        case ye7 =>
          intro w hSw
          (try dsimp only at hSw)
          go_simp
          first | done | with_reducible rfl | (rw [if_neg (by omega)])
        try simp only [Act.put, List.getElem_toArray, List.getElem_cons_zero, List.getElem_cons_succ, List.setIfInBounds_toArray, List.set_cons_zero, List.set_cons_succ]
        refine wpAnyL_take (i := 8) (v := ?ve8) rfl (by kernel_rfl) (by kernel_rfl) (by kernel_rfl) (by kernel_rfl) (by kernel_rfl) (fun _ _ _ h => h) hHeld (Or.inl ⟨by rfl, ?ye8⟩) ?re8
        case ye8 =>
          intro w hSw
          (try dsimp only at hSw)
          go_simp
          first | done | with_reducible rfl | (rw [if_neg (by omega)])
        try simp only [Act.put, List.getElem_toArray, List.getElem_cons_zero, List.getElem_cons_succ, List.setIfInBounds_toArray, List.set_cons_zero, List.set_cons_succ]
        refine wpAnyL_take (i := 9) (v := ?ve9) rfl (by kernel_rfl) (by kernel_rfl) (by kernel_rfl) (by kernel_rfl) (by kernel_rfl) (fun _ _ _ h => h) hHeld (Or.inl ⟨by rfl, ?ye9⟩) ?re9
        case ye9 =>
          intro w hSw
          (try dsimp only at hSw)
          go_simp
          first | done | with_reducible rfl | (rw [if_neg (by omega)])
        try simp only [Act.put, List.getElem_toArray, List.getElem_cons_zero, List.getElem_cons_succ, List.setIfInBounds_toArray, List.set_cons_zero, List.set_cons_succ]
        refine wpAnyL_take (i := 10) (v := ?ve10) rfl (by kernel_rfl) (by kernel_rfl) (by kernel_rfl) (by kernel_rfl) (by kernel_rfl) (fun _ _ _ h => h) hHeld (Or.inl ⟨by rfl, ?ye10⟩) ?re10
        case ye10 =>
          intro w hSw
          (try dsimp only at hSw)
          go_simp
          first | done | with_reducible rfl | (rw [if_neg (by omega)])
        try simp only [Act.put, List.getElem_toArray, List.getElem_cons_zero, List.getElem_cons_succ, List.setIfInBounds_toArray, List.set_cons_zero, List.set_cons_succ]
        refine wpAnyL_take (i := 11) (v := ?ve11) rfl (by kernel_rfl) (by kernel_rfl) (by kernel_rfl) (by kernel_rfl) (by kernel_rfl) (fun _ _ _ h => h) hHeld (Or.inl ⟨by rfl, ?ye11⟩) ?re11
        case ye11 =>
          intro w hSw
          (try dsimp only at hSw)
          go_simp
          first | done | with_reducible rfl | (rw [if_neg (by omega)])
        try simp only [Act.put, List.getElem_toArray, List.getElem_cons_zero, List.getElem_cons_succ, List.setIfInBounds_toArray, List.set_cons_zero, List.set_cons_succ]
        refine wpAnyL_take (i := 12) (v := ?ve12) rfl (by kernel_rfl) (by kernel_rfl) (by kernel_rfl) (by kernel_rfl) (by kernel_rfl) (fun _ _ _ h => h) hHeld (Or.inl ⟨by rfl, ?ye12⟩) ?re12
        case ye12 =>
          intro w hSw
          (try dsimp only at hSw)
          go_simp
          first | done | with_reducible rfl | (rw [if_neg (by omega)])
        try simp only [Act.put, List.getElem_toArray, List.getElem_cons_zero, List.getElem_cons_succ, List.setIfInBounds_toArray, List.set_cons_zero, List.set_cons_succ]
        refine wpAnyL_take (i := 13) (v := ?ve13) rfl (by kernel_rfl) (by kernel_rfl) (by kernel_rfl) (by kernel_rfl) (by kernel_rfl) (fun _ _ _ h => h) hHeld (Or.inl ⟨by rfl, ?ye13⟩) ?re13
        case ye13 =>
          intro w hSw
          (try dsimp only at hSw)
          go_simp
          first | done | with_reducible rfl | (rw [if_neg (by omega)])
        try simp only [Act.put, List.getElem_toArray, List.getElem_cons_zero, List.getElem_cons_succ, List.setIfInBounds_toArray, List.set_cons_zero, List.set_cons_succ]
        refine wpAnyL_take (i := 14) (v := ?ve14) rfl (by kernel_rfl) (by kernel_rfl) (by kernel_rfl) (by kernel_rfl) (by kernel_rfl) (fun _ _ _ h => h) hHeld (Or.inl ⟨by rfl, ?ye14⟩) ?re14
        case ye14 =>
          intro w hSw
          (try dsimp only at hSw)
          go_simp
          first | done | with_reducible rfl | (rw [if_neg (by omega)])
        try simp only [Act.put, List.getElem_toArray, List.getElem_cons_zero, List.getElem_cons_succ, List.setIfInBounds_toArray, List.set_cons_zero, List.set_cons_succ]
        refine wpAnyL_one (i := 15) (by kernel_rfl) rfl rfl (fun K hK => ?_)
        go_simp
        have hb8 : Below w3.drew.heap.size w3.drew (w3.drew.alloc (.cells #[.string (dir ++ ⟨#[58]⟩ ++ N)] 9)) := (Below.refl _ _).alloc (Nat.le_refl _) _
        have p1 : (w3.drew.alloc (.cells #[.string (dir ++ ⟨#[58]⟩ ++ N)] 9)).cell? ⟨R, 0, none⟩ = some (.pointer (some ⟨g, M.length * 3, none⟩)) := cell_of_row _ R 0 _ _ _ (row_belowB H1D.out hb8)
        have p2 : (w3.drew.alloc (.cells #[.string (dir ++ ⟨#[58]⟩ ++ N)] 9)).cell? ⟨g, M.length * 3 + 2, none⟩ = some (.slice x.B x.d.length x.b) := (cell_of_row _ g _ _ _ _ (row_belowB HGC.out hb8)).trans HCU.out
        have hHeld := (show _ ∧ _ from ⟨p1, p2⟩)
        clear hb8 p1 p2
        refine hK.out _ _ (fun _ => hHeld) ?_
        clear hK K
        try simp only [Act.put, List.getElem_toArray, List.getElem_cons_zero, List.getElem_cons_succ, List.setIfInBounds_toArray, List.set_cons_zero, List.set_cons_succ]
        refine wpAnyL_one (i := 16) (by kernel_rfl) rfl rfl (fun K hK => ?_)
        refine wp_append_lies _ (.tmp 49) (.tmp 54) 34 rfl base 9 si (.string ⟨#[]⟩) 1 16 Tryd.underlying34 HI.out HZ0.out hz1 hz2 rfl (by decide) (.slice x.B x.d.length x.b) x.d.length (strVs x.d) rfl (HL.out.d.alloc _) ⟨w3.drew.heap.size, 0, none⟩ 1 1 [.string (dir ++ ⟨#[58]⟩ ++ N)] rfl rfl (one_cellB _ _ _) (by intro u hu; simp only [List.mem_singleton] at hu; subst hu; rfl) (by decide) (by unfold maxLen; omega) (by omega) (by show base ≤ (w3.alloc (.cells #[.string (dir ++ ⟨#[58]⟩ ++ N)] 9)).heap.size; rw [World.size_alloc]; omega) _ rfl ?_
        intro g8 c8 w8 hown8 hgr8 hat8 _
        rw [own_blk] at hgr8 hat8
        rw [label_bytes, ← strVs_oneB] at hown8
        obtain ⟨hO2, hT2⟩ := HH2.out.layDep hR hm H1D.out H2D.out hgr8 hown8 (hat8.imp id (fun e => by rw [e]; show some (w3.alloc (.cells #[.string (dir ++ ⟨#[58]⟩ ++ N)] 9)).heap.size = some (w3.heap.size + 1); rw [World.size_alloc]))
        have hR8 := (hgr8.block R (by have : R < w3.heap.size := (Array.getElem?_eq_some_iff.1 H1D.out).1; show R < (w3.alloc (.cells #[.string (dir ++ ⟨#[58]⟩ ++ N)] 9)).heap.size; rw [World.size_alloc]; omega) (fun e => by have := HXB.out R e.symm; omega)).trans (row_belowB H1D.out ((Below.refl _ _).alloc (Nat.le_refl _) _))
        have hg8 := (hgr8.block g (by have : g < w3.heap.size := (Array.getElem?_eq_some_iff.1 HGC.out).1; show g < (w3.alloc (.cells #[.string (dir ++ ⟨#[58]⟩ ++ N)] 9)).heap.size; rw [World.size_alloc]; omega) (fun e => HXG.out e.symm)).trans (row_belowB HGC.out ((Below.refl _ _).alloc (Nat.le_refl _) _))
        have d1 : w8.cell? ⟨R, 0, none⟩ = some (.pointer (some ⟨g, M.length * 3, none⟩)) := cell_of_row w8 R 0 _ _ _ hR8
        have d2 : w8.cell? ⟨g, M.length * 3 + 2, none⟩ = some (.slice x.B x.d.length x.b) := (cell_of_row w8 g _ _ _ _ hg8).trans HCU.out
        have e2 : w8.frozen? ⟨g, M.length * 3 + 2, none⟩ = false := frozen_of_row w8 g _ _ _ hg8
        have HO2 := Lib.hid hO2
        have HT2 := Lib.hid hT2
        have hHeld := (show _ ∧ _ from ⟨d1, d2⟩)
        clear hO2 hT2 hown8 hgr8 hat8 hR8 hg8
        refine hK.out _ _ (fun _ => hHeld) ?_
        clear hK K
        try simp only [Act.put, List.getElem_toArray, List.getElem_cons_zero, List.getElem_cons_succ, List.setIfInBounds_toArray, List.set_cons_zero, List.set_cons_succ]
        refine wpAnyL_one (i := 17) (by kernel_rfl) rfl rfl (fun K hK => ?_)
        go_simp
        refine hK.out _ _ (fun _ => hHeld) ?_
        clear hK K
        try simp only [Act.put, List.getElem_toArray, List.getElem_cons_zero, List.getElem_cons_succ, List.setIfInBounds_toArray, List.set_cons_zero, List.set_cons_succ]
        refine wpAnyL_take (i := 18) (v := ?ve18) rfl (by kernel_rfl) (by kernel_rfl) (by kernel_rfl) (by kernel_rfl) (by kernel_rfl) (fun _ _ _ h => h) hHeld (Or.inl ⟨by rfl, ?ye18⟩) ?re18
        case ye18 =>
          intro w hSw
          (try dsimp only at hSw)
          go_simp
          first | done | with_reducible rfl | (rw [if_neg (by omega)])
        try simp only [Act.put, List.getElem_toArray, List.getElem_cons_zero, List.getElem_cons_succ, List.setIfInBounds_toArray, List.set_cons_zero, List.set_cons_succ]
        refine wpAnyL_one (i := 19) (by kernel_rfl) rfl rfl (fun K hK => ?_)
        go_simp
        refine hK.out _ _ (fun h => absurd rfl h) ?_
        clear hK K
        try simp only [Act.put, List.getElem_toArray, List.getElem_cons_zero, List.getElem_cons_succ, List.setIfInBounds_toArray, List.set_cons_zero, List.set_cons_succ]
        refine wpAnyL_done (by kernel_rfl) ?_ _
        go_wp2_with fail
        go_ret
        refine ⟨0, _, K, rfl, HO2.out, (TurnR.of_below HBD.out).trans HT2.out, .inr ⟨rfl, ?_, ?_⟩⟩
        · exact depT_good _ _ _ _ _ _ _ HLAB.out
        · rw [HK.out]; refine Eq.symm (namesX_src M x _ ?_); rfl
    · have g1 : (!D.toList.isEmpty) = true := by simpa using hde
      have g2 : D.toList.isEmpty = false := by simpa using hde
      have hde2 : (cutC t.data.toList).1.isEmpty = false := by
        rw [← HDL.out, ← ByteArray.toList_eq]; simpa using hde
      have HDE := Lib.hid hde2
      clear hde hde2
      go_enter Tryd.func63, Tryd.ntmps63
      go_wp2_with fail
      refine HCUT.out.mono ?_
      rintro e w' ⟨rfl, q, rfl⟩
      rw [HC1.out, HC2.out]
      obtain ⟨c0, c1⟩ := H0Q.out _ (HBQ.out q)
      go_wp2_with fail
      refine (HRI.out q).mono ?_
      rintro e w2 ⟨rfl, hbr⟩
      have hb : Below W.heap.size W w2 := (HBQ.out q).trans hbr
      clear hbr c0 c1
      obtain ⟨c0, c1⟩ := H0Q.out w2 hb
      have HB := Lib.hid hb
      clear hb
      cases hrt : rightB D.data.toList with
      | false =>
        have HRT := Lib.hid hrt; clear hrt
        go_wp2_with fail
        go_ret
        exact ⟨11, M ++ [x], K, rfl, HH.out.below HB.out, TurnR.of_below HB.out, .inl ⟨by decide, depT_bad _ _ _ (by rw [HDE.out, ← HDL.out, HRT.out, Bool.false_or, Bool.and_false, Bool.and_false])⟩⟩
      | true =>
        go_wp2_with fail
        refine (HNA.out w2).mono ?_
        rintro e w3 ⟨rfl, rfl⟩
        cases hnt : namedT N.data.toList with
        | false =>
          have HNT := Lib.hid hnt; clear hnt
          have HRT := Lib.hid hrt; clear hrt
          go_wp2_with fail
          go_ret
          exact ⟨11, M ++ [x], K, rfl, HH.out.below HB.out, TurnR.of_below HB.out, .inl ⟨by decide, depT_bad _ _ _ (by rw [← HNL.out, HNT.out, Bool.false_and, Bool.and_false])⟩⟩
        | true =>
          have hlab : labelT dir.data.toList t.data.toList = some (D.data.toList ++ 58 :: N.data.toList) := by
            unfold labelT
            rw [HDE.out, ← HNL.out, ← HDL.out, hnt, hrt]; rfl
          clear hrt
          have HLAB := Lib.hid hlab
          have hb := HB.out
          have hbd : Below W.heap.size W w3.drew := hb.drew
          have hs2 : W.heap.size ≤ w3.heap.size := hb.size
          have hh2 : RdO base R m dir (M ++ [x]) K w3.drew := HH.out.below hbd
          have h1d : w3.drew.heap[R]? = some (.cells #[.pointer (some ⟨g, M.length * 3, none⟩), .string dir, .slice (some ⟨g, 0, none⟩) (M.length + 1) c, .map (some m)] 70 (0, 0)) := row_belowB H1.out hbd
          have h2d : w3.drew.ownsRow base 37 3 (.slice (some ⟨g, 0, none⟩) (M.length + 1) c) (M.length + 1) (gcells (M ++ [x])) := ownsRow_keepA H2.out fun j o _ _ ho => row_belowB ho hbd
          obtain ⟨hL, _⟩ := hh2.last M x rfl
          obtain ⟨_, cur, hgc⟩ := row_ge h2d (g := g) rfl
          have hxg := no_textB hL.d hgc
          have hxb : ∀ j, blkA x.B = some j → base ≤ j := fun j hj => (row_ge hL.d ((own_blk _ _ _).trans hj)).1
          have hcu : cur[M.length * 3 + 2]? = some (.slice x.B x.d.length x.b) := by
            have a := (gcells_at (M ++ [x]) M.length x (by simp)).2.2
            have b := World.ownsRow.cells h2d (g := g) rfl _ _ a
            rw [Go.WideShapes.add_plain, Nat.zero_add] at b
            rw [cell_of_row w3.drew g _ _ _ _ hgc] at b
            exact b
          have k1 : w3.cell? ⟨R, 0, none⟩ = some (.pointer (some ⟨g, M.length * 3, none⟩)) := cell_of_row w3 R 0 _ _ _ h1d
          have k2 : w3.cell? ⟨g, M.length * 3 + 2, none⟩ = some (.slice x.B x.d.length x.b) := (cell_of_row w3 g _ _ _ _ hgc).trans hcu
          have hHeld := (show _ ∧ _ from ⟨k1, k2⟩)
          obtain ⟨si, hi, hz0, hz1, hz2⟩ := info_parts string_info
          have HH2 := Lib.hid hh2
          have H1D := Lib.hid h1d
          have H2D := Lib.hid h2d
          have HL := Lib.hid hL
          have HGC := Lib.hid hgc
          have HCU := Lib.hid hcu
          have HXG := Lib.hid hxg
          have HXB := Lib.hid hxb
          have HI := Lib.hid hi
          have HZ0 := Lib.hid hz0
          have HBD := Lib.hid hbd
          clear hh2 h1d h2d hL hgc hcu hxg hxb hb hi hz0 hbd hnt hlab
          go_wp2_with fail
          refine wp_region_last (fun w' => w'.cell? ⟨R, 0, none⟩ = some (.pointer (some ⟨g, M.length * 3, none⟩)) ∧ w'.cell? ⟨g, M.length * 3 + 2, none⟩ = some (.slice x.B x.d.length x.b)) 19 (by kernel_rfl) ?_
          refine wpAnyL_take (i := 0) (v := ?vn0) rfl (by kernel_rfl) (by kernel_rfl) (by kernel_rfl) (by kernel_rfl) (by kernel_rfl) (fun _ _ _ h => h) hHeld (Or.inl ⟨by rfl, ?yn0⟩) ?rn0
          case yn0 =>
            intro w hSw
            (try dsimp only at hSw)
            go_simp
            first | done | with_reducible rfl | (rw [if_neg (by omega)])
          try simp only [Act.put, List.getElem_toArray, List.getElem_cons_zero, List.setIfInBounds_toArray, List.set_cons_zero, List.set_cons_succ]
          refine wpAnyL_take (i := 1) (v := ?vn1) rfl (by kernel_rfl) (by kernel_rfl) (by kernel_rfl) (by kernel_rfl) (by kernel_rfl) (fun _ _ _ h => h) hHeld (Or.inl ⟨by rfl, ?yn1⟩) ?rn1
          case yn1 =>
            intro w hSw
            (try dsimp only at hSw)
            go_simp
            first | done | with_reducible rfl | (rw [if_neg (by omega)])
          try simp only [Act.put, List.getElem_toArray, List.getElem_cons_zero, List.getElem_cons_succ, List.setIfInBounds_toArray, List.set_cons_zero, List.set_cons_succ]
          refine wpAnyL_take (i := 2) (v := ?vn2) rfl (by kernel_rfl) (by kernel_rfl) (by kernel_rfl) (by kernel_rfl) (by kernel_rfl) (fun _ _ _ h => h) hHeld (Or.inl ⟨by rfl, ?yn2⟩) ?rn2
          case yn2 =>
            intro w hSw
            (try dsimp only at hSw)
            go_simp
            first | done | with_reducible rfl | (rw [if_neg (by omega)])
          try simp only [Act.put, List.getElem_toArray, List.getElem_cons_zero, List.getElem_cons_succ, List.setIfInBounds_toArray, List.set_cons_zero, List.set_cons_succ]
          refine wpAnyL_take (i := 3) (v := ?vn3) rfl (by kernel_rfl) (by kernel_rfl) (by kernel_rfl) (by kernel_rfl) (by kernel_rfl) (fun _ _ _ h => h) hHeld (Or.inl ⟨by rfl, ?yn3⟩) ?rn3
          case yn3 =>
            intro w hSw
            (try dsimp only at hSw)
            go_simp
            first | done | with_reducible rfl | (rw [if_neg (by omega)])
          try simp only [Act.put, List.getElem_toArray, List.getElem_cons_zero, List.getElem_cons_succ, List.setIfInBounds_toArray, List.set_cons_zero, List.set_cons_succ]
          refine wpAnyL_take (i := 4) (v := ?vn4) rfl (by kernel_rfl) (by kernel_rfl) (by kernel_rfl) (by kernel_rfl) (by kernel_rfl) (fun _ _ _ h => h) hHeld (Or.inl ⟨by rfl, ?yn4⟩) ?rn4
          case yn4 =>
            intro w hSw
            (try dsimp only at hSw)
            go_simp
            first | done | with_reducible rfl | (rw [if_neg (by omega)])
          try simp only [Act.put, List.getElem_toArray, List.getElem_cons_zero, List.getElem_cons_succ, List.setIfInBounds_toArray, List.set_cons_zero, List.set_cons_succ]
          refine wpAnyL_take (i := 5) (v := ?vn5) rfl (by kernel_rfl) (by kernel_rfl) (by kernel_rfl) (by kernel_rfl) (by kernel_rfl) (fun _ _ _ h => h) hHeld (Or.inl ⟨by rfl, ?yn5⟩) ?rn5
          case yn5 =>
            intro w hSw
            (try dsimp only at hSw)
            go_simp
            first | done | with_reducible rfl | (rw [if_neg (by omega)])
          try simp only [Act.put, List.getElem_toArray, List.getElem_cons_zero, List.getElem_cons_succ, List.setIfInBounds_toArray, List.set_cons_zero, List.set_cons_succ]
          refine wpAnyL_take (i := 6) (v := ?vn6) rfl (by kernel_rfl) (by kernel_rfl) (by kernel_rfl) (by kernel_rfl) (by kernel_rfl) (fun _ _ _ h => h) hHeld (Or.inl ⟨by rfl, ?yn6⟩) ?rn6
          case yn6 =>
            intro w hSw
            (try dsimp only at hSw)
            go_simp
            first | done | with_reducible rfl | (rw [if_neg (by omega)])
          try simp only [Act.put, List.getElem_toArray, List.getElem_cons_zero, List.getElem_cons_succ, List.setIfInBounds_toArray, List.set_cons_zero, List.set_cons_succ]
          refine wpAnyL_take (i := 7) (v := ?vn7) rfl (by kernel_rfl) (by kernel_rfl) (by kernel_rfl) (by kernel_rfl) (by kernel_rfl) (fun _ _ _ h => h) hHeld (Or.inl ⟨by rfl, ?yn7⟩) ?rn7
          case yn7 =>
            intro w hSw
            (try dsimp only at hSw)
            go_simp
            first | done | with_reducible rfl | (rw [if_neg (by omega)])
          try simp only [Act.put, List.getElem_toArray, List.getElem_cons_zero, List.getElem_cons_succ, List.setIfInBounds_toArray, List.set_cons_zero, List.set_cons_succ]
          refine wpAnyL_take (i := 8) (v := ?vn8) rfl (by kernel_rfl) (by kernel_rfl) (by kernel_rfl) (by kernel_rfl) (by kernel_rfl) (fun _ _ _ h => h) hHeld (Or.inl ⟨by rfl, ?yn8⟩) ?rn8
          case yn8 =>
            intro w hSw
            (try dsimp only at hSw)
            go_simp
            first | done | with_reducible rfl | (rw [if_neg (by omega)])
          try simp only [Act.put, List.getElem_toArray, List.getElem_cons_zero, List.getElem_cons_succ, List.setIfInBounds_toArray, List.set_cons_zero, List.set_cons_succ]
          refine wpAnyL_take (i := 9) (v := ?vn9) rfl (by kernel_rfl) (by kernel_rfl) (by kernel_rfl) (by kernel_rfl) (by kernel_rfl) (fun _ _ _ h => h) hHeld (Or.inl ⟨by rfl, ?yn9⟩) ?rn9
          case yn9 =>
            intro w hSw
            (try dsimp only at hSw)
            go_simp
            first | done | with_reducible rfl | (rw [if_neg (by omega)])
          try simp only [Act.put, List.getElem_toArray, List.getElem_cons_zero, List.getElem_cons_succ, List.setIfInBounds_toArray, List.set_cons_zero, List.set_cons_succ]
          refine wpAnyL_take (i := 10) (v := ?vn10) rfl (by kernel_rfl) (by kernel_rfl) (by kernel_rfl) (by kernel_rfl) (by kernel_rfl) (fun _ _ _ h => h) hHeld (Or.inl ⟨by rfl, ?yn10⟩) ?rn10
          case yn10 =>
            intro w hSw
            (try dsimp only at hSw)
            go_simp
            first | done | with_reducible rfl | (rw [if_neg (by omega)])
          try simp only [Act.put, List.getElem_toArray, List.getElem_cons_zero, List.getElem_cons_succ, List.setIfInBounds_toArray, List.set_cons_zero, List.set_cons_succ]
          refine wpAnyL_take (i := 11) (v := ?vn11) rfl (by kernel_rfl) (by kernel_rfl) (by kernel_rfl) (by kernel_rfl) (by kernel_rfl) (fun _ _ _ h => h) hHeld (Or.inl ⟨by rfl, ?yn11⟩) ?rn11
          case yn11 =>
            intro w hSw
            (try dsimp only at hSw)
            go_simp
            first | done | with_reducible rfl | (rw [if_neg (by omega)])
          try simp only [Act.put, List.getElem_toArray, List.getElem_cons_zero, List.getElem_cons_succ, List.setIfInBounds_toArray, List.set_cons_zero, List.set_cons_succ]
          refine wpAnyL_take (i := 12) (v := ?vn12) rfl (by kernel_rfl) (by kernel_rfl) (by kernel_rfl) (by kernel_rfl) (by kernel_rfl) (fun _ _ _ h => h) hHeld (Or.inl ⟨by rfl, ?yn12⟩) ?rn12
          case yn12 =>
            intro w hSw
            (try dsimp only at hSw)
            go_simp
            first | done | with_reducible rfl | (rw [if_neg (by omega)])
          try simp only [Act.put, List.getElem_toArray, List.getElem_cons_zero, List.getElem_cons_succ, List.setIfInBounds_toArray, List.set_cons_zero, List.set_cons_succ]
          refine wpAnyL_take (i := 13) (v := ?vn13) rfl (by kernel_rfl) (by kernel_rfl) (by kernel_rfl) (by kernel_rfl) (by kernel_rfl) (fun _ _ _ h => h) hHeld (Or.inl ⟨by rfl, ?yn13⟩) ?rn13
          case yn13 =>
            intro w hSw
            (try dsimp only at hSw)
            go_simp
            first | done | with_reducible rfl | (rw [if_neg (by omega)])
          try simp only [Act.put, List.getElem_toArray, List.getElem_cons_zero, List.getElem_cons_succ, List.setIfInBounds_toArray, List.set_cons_zero, List.set_cons_succ]
          refine wpAnyL_take (i := 14) (v := ?vn14) rfl (by kernel_rfl) (by kernel_rfl) (by kernel_rfl) (by kernel_rfl) (by kernel_rfl) (fun _ _ _ h => h) hHeld (Or.inl ⟨by rfl, ?yn14⟩) ?rn14
          case yn14 =>
            intro w hSw
            (try dsimp only at hSw)
            go_simp
            first | done | with_reducible rfl | (rw [if_neg (by omega)])
          try simp only [Act.put, List.getElem_toArray, List.getElem_cons_zero, List.getElem_cons_succ, List.setIfInBounds_toArray, List.set_cons_zero, List.set_cons_succ]
          refine wpAnyL_one (i := 15) (by kernel_rfl) rfl rfl (fun K hK => ?_)
          go_simp
          have hb8 : Below w3.drew.heap.size w3.drew (w3.drew.alloc (.cells #[.string (D ++ ⟨#[58]⟩ ++ N)] 9)) := (Below.refl _ _).alloc (Nat.le_refl _) _
          have p1 : (w3.drew.alloc (.cells #[.string (D ++ ⟨#[58]⟩ ++ N)] 9)).cell? ⟨R, 0, none⟩ = some (.pointer (some ⟨g, M.length * 3, none⟩)) := cell_of_row _ R 0 _ _ _ (row_belowB H1D.out hb8)
          have p2 : (w3.drew.alloc (.cells #[.string (D ++ ⟨#[58]⟩ ++ N)] 9)).cell? ⟨g, M.length * 3 + 2, none⟩ = some (.slice x.B x.d.length x.b) := (cell_of_row _ g _ _ _ _ (row_belowB HGC.out hb8)).trans HCU.out
          have hHeld := (show _ ∧ _ from ⟨p1, p2⟩)
          clear hb8 p1 p2
          refine hK.out _ _ (fun _ => hHeld) ?_
          clear hK K
          try simp only [Act.put, List.getElem_toArray, List.getElem_cons_zero, List.getElem_cons_succ, List.setIfInBounds_toArray, List.set_cons_zero, List.set_cons_succ]
          refine wpAnyL_one (i := 16) (by kernel_rfl) rfl rfl (fun K hK => ?_)
          refine wp_append_lies _ (.tmp 49) (.tmp 54) 34 rfl base 9 si (.string ⟨#[]⟩) 1 16 Tryd.underlying34 HI.out HZ0.out hz1 hz2 rfl (by decide) (.slice x.B x.d.length x.b) x.d.length (strVs x.d) rfl (HL.out.d.alloc _) ⟨w3.drew.heap.size, 0, none⟩ 1 1 [.string (D ++ ⟨#[58]⟩ ++ N)] rfl rfl (one_cellB _ _ _) (by intro u hu; simp only [List.mem_singleton] at hu; subst hu; rfl) (by decide) (by unfold maxLen; omega) (by omega) (by show base ≤ (w3.alloc (.cells #[.string (D ++ ⟨#[58]⟩ ++ N)] 9)).heap.size; rw [World.size_alloc]; omega) _ rfl ?_
          intro g8 c8 w8 hown8 hgr8 hat8 _
          rw [own_blk] at hgr8 hat8
          rw [label_bytes, ← strVs_oneB] at hown8
          obtain ⟨hO2, hT2⟩ := HH2.out.layDep hR hm H1D.out H2D.out hgr8 hown8 (hat8.imp id (fun e => by rw [e]; show some (w3.alloc (.cells #[.string (D ++ ⟨#[58]⟩ ++ N)] 9)).heap.size = some (w3.heap.size + 1); rw [World.size_alloc]))
          have hR8 := (hgr8.block R (by have : R < w3.heap.size := (Array.getElem?_eq_some_iff.1 H1D.out).1; show R < (w3.alloc (.cells #[.string (D ++ ⟨#[58]⟩ ++ N)] 9)).heap.size; rw [World.size_alloc]; omega) (fun e => by have := HXB.out R e.symm; omega)).trans (row_belowB H1D.out ((Below.refl _ _).alloc (Nat.le_refl _) _))
          have hg8 := (hgr8.block g (by have : g < w3.heap.size := (Array.getElem?_eq_some_iff.1 HGC.out).1; show g < (w3.alloc (.cells #[.string (D ++ ⟨#[58]⟩ ++ N)] 9)).heap.size; rw [World.size_alloc]; omega) (fun e => HXG.out e.symm)).trans (row_belowB HGC.out ((Below.refl _ _).alloc (Nat.le_refl _) _))
          have d1 : w8.cell? ⟨R, 0, none⟩ = some (.pointer (some ⟨g, M.length * 3, none⟩)) := cell_of_row w8 R 0 _ _ _ hR8
          have d2 : w8.cell? ⟨g, M.length * 3 + 2, none⟩ = some (.slice x.B x.d.length x.b) := (cell_of_row w8 g _ _ _ _ hg8).trans HCU.out
          have e2 : w8.frozen? ⟨g, M.length * 3 + 2, none⟩ = false := frozen_of_row w8 g _ _ _ hg8
          have HO2 := Lib.hid hO2
          have HT2 := Lib.hid hT2
          have hHeld := (show _ ∧ _ from ⟨d1, d2⟩)
          clear hO2 hT2 hown8 hgr8 hat8 hR8 hg8
          refine hK.out _ _ (fun _ => hHeld) ?_
          clear hK K
          try simp only [Act.put, List.getElem_toArray, List.getElem_cons_zero, List.getElem_cons_succ, List.setIfInBounds_toArray, List.set_cons_zero, List.set_cons_succ]
          refine wpAnyL_one (i := 17) (by kernel_rfl) rfl rfl (fun K hK => ?_)
          go_simp
          refine hK.out _ _ (fun _ => hHeld) ?_
          clear hK K
          try simp only [Act.put, List.getElem_toArray, List.getElem_cons_zero, List.getElem_cons_succ, List.setIfInBounds_toArray, List.set_cons_zero, List.set_cons_succ]
          refine wpAnyL_take (i := 18) (v := ?vn18) rfl (by kernel_rfl) (by kernel_rfl) (by kernel_rfl) (by kernel_rfl) (by kernel_rfl) (fun _ _ _ h => h) hHeld (Or.inl ⟨by rfl, ?yn18⟩) ?rn18
          case yn18 =>
            intro w hSw
            (try dsimp only at hSw)
            go_simp
            first | done | with_reducible rfl | (rw [if_neg (by omega)])
          try simp only [Act.put, List.getElem_toArray, List.getElem_cons_zero, List.getElem_cons_succ, List.setIfInBounds_toArray, List.set_cons_zero, List.set_cons_succ]
          refine wpAnyL_one (i := 19) (by kernel_rfl) rfl rfl (fun K hK => ?_)
          go_simp
          refine hK.out _ _ (fun h => absurd rfl h) ?_
          clear hK K
          try simp only [Act.put, List.getElem_toArray, List.getElem_cons_zero, List.getElem_cons_succ, List.setIfInBounds_toArray, List.set_cons_zero, List.set_cons_succ]
          refine wpAnyL_done (by kernel_rfl) ?_ _
          go_wp2_with fail
          go_ret
          refine ⟨0, _, K, rfl, HO2.out, (TurnR.of_below HBD.out).trans HT2.out, .inr ⟨rfl, ?_, ?_⟩⟩
          · exact depT_good _ _ _ _ _ _ _ HLAB.out
          · rw [HK.out]; refine Eq.symm (namesX_src M x _ ?_); rfl
end Go.Proofs.YtckpojkbcbogbaaDoor
