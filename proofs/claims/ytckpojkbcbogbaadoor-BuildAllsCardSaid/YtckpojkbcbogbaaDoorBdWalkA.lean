/-
  The contract of build.All.
-/
import Derived.Test.YtckpojkbcbogbaaDoorBdWhole
import Derived.Test.YtckpojkbcbogbaaDoorBdApp
import Derived.Test.YtckpojkbcbogbaaDoorBdSort
import Derived.Test.YtckpojkbcbogbaaDoorBdKnown
import Derived.Test.YtckpojkbcbogbaaDoorBdAll
import Derived.Test.YtckpojkbcbogbaaDoorTNested
import Derived.Test.YtckpojkbcbogbaaDoorBdDoor
import Derived.Deep.RegionHeld3
import Derived.Laws.AppendOwnNone
import Derived.Defers
namespace Go.Proofs.YtckpojkbcbogbaaDoor
open Go Go.RowKit Go.Shelf Go.Proofs
attribute [local go_sem] Oper.semAt_some

/-- No name, and nothing that is stood on, is longer. -/
def SzT (M : Nat) (l : List Tg) : Prop := ∀ x ∈ l, x.n.length ≤ M ∧ ∀ d ∈ x.d, d.length ≤ M
theorem cutC_lenZ (s : Bs) : (cutC s).1.length ≤ s.length ∧ (cutC s).2.length ≤ s.length := by
  unfold cutC
  refine ⟨(List.takeWhile_sublist _).length_le, ?_⟩
  have h := (List.dropWhile_sublist (fun c : UInt8 => c != 58) (l := s)).length_le
  rw [List.length_drop]; omega
theorem labelT_len {dir s n : Bs} (h : labelT dir s = some n) : n.length ≤ dir.length + 2 * s.length + 1 := by
  unfold labelT at h
  have hc := cutC_lenZ s
  split at h
  · cases h
    rw [List.length_append, List.length_cons]
    split <;> omega
  · cases h
theorem SzT.line {M m : Nat} {dir : Bs} {l l' : List Tg} {ws : List Bs} (h : SzT M l) (hw : ∀ p ∈ ws, p.length ≤ m) (hM : dir.length + 2 * m + 1 ≤ M) (e : lineT dir l ws = .ok l') : SzT M l' := by
  unfold lineT at e
  split at e
  · cases e; exact h
  · rename_i wd s
    have hs := hw s (by simp)
    unfold actT at e
    split at e
    · unfold targetT at e
      split at e
      · split at e
        · cases e
        · cases e
          intro x hx
          rcases List.mem_append.1 hx with hx | hx
          · exact h x hx
          · simp only [List.mem_singleton] at hx; subst hx
            refine ⟨by simp; omega, fun d hd => by cases hd⟩
      · cases e
    · split at e
      · unfold srcT at e
        split at e
        · cases e
          intro x hx
          rcases lastM_mem _ _ _ hx with hx | ⟨y, hy, rfl⟩
          · exact h x hx
          · exact h y hy
        · cases e
      · split at e
        · unfold depT at e
          split at e
          · cases e
          · split at e
            · cases e
            · rename_i n hn
              cases e
              intro x hx
              rcases lastM_mem _ _ _ hx with hx | ⟨y, hy, rfl⟩
              · exact h x hx
              · refine ⟨(h y hy).1, fun d hd => ?_⟩
                rcases List.mem_append.1 hd with hd | hd
                · exact (h y hy).2 d hd
                · obtain rfl : d = n := by simpa using hd
                  have := labelT_len hn
                  omega
        · cases e
  · cases e
theorem SzT.lines {M m : Nat} {dir : Bs} : ∀ (ws : List (List Bs)) (l l' : List Tg), SzT M l → (∀ p ∈ ws, ∀ q ∈ p, q.length ≤ m) → dir.length + 2 * m + 1 ≤ M → linesT dir ws (.ok l) = .ok l' → SzT M l'
  | [], l, l', h, _, _, e => by cases e; exact h
  | x :: ws, l, l', h, hw, hM, e => by
    have e1 : linesT dir (x :: ws) (.ok l) = linesT dir ws (lineT dir l x) := rfl
    rw [e1] at e
    cases h2 : lineT dir l x with
    | error n => rw [h2, linesT_err] at e; cases e
    | ok k =>
      rw [h2] at e
      exact SzT.lines ws k l' (h.line (hw x (by simp)) hM h2) (fun p hp => hw p (List.mem_cons_of_mem _ hp)) hM e
theorem parseB_sz {dir s : Bs} : SzT (dir.length + 2 * s.length + 1) (parseB dir s).2 ∧ (parseB dir s).2.length ≤ s.length + 1 ∧ ∀ x ∈ (parseB dir s).2, x.s.length ≤ s.length + 1 ∧ x.d.length ≤ s.length + 1 := by
  have h0 : SzT (dir.length + 2 * s.length + 1) [] ∧ ([] : List Tg).length ≤ s.length + 1 ∧ ∀ x ∈ ([] : List Tg), x.s.length ≤ s.length + 1 ∧ x.d.length ≤ s.length + 1 := ⟨(fun x hx => by cases hx), Nat.zero_le _, (fun x hx => by cases hx)⟩
  unfold parseB
  split
  · exact h0
  · split
    · exact h0
    · split
      · exact h0
      · rename_i l hl
        have h3 : BdK (0 + ((splitL 10 s).map wordsL).length) l := BdK.lines _ 0 [] l ⟨Nat.le_refl _, fun x hx => by cases hx⟩ hl
        have h4 := splitL_length 10 s
        rw [List.length_map, Nat.zero_add] at h3
        refine ⟨SzT.lines _ [] l h0.1 ?_ (Nat.le_refl _) hl, by have := h3.1; show l.length ≤ _; omega, fun x hx => by have := h3.2 x hx; omega⟩
        intro p hp q hq
        obtain ⟨y, hy, rfl⟩ := List.mem_map.1 hp
        have h5 := bpiece_le 10 s y hy
        have h6 := bpiece_le 32 _ q (List.mem_filter.1 hq).1
        have h7 := cutT_le y
        omega
theorem brun_str (w : World) (A : Option Addr) (c : Nat) (b : Bs) (h : BytesAt w A b) : (convert 44 9 (.slice A b.length c)).run Tryd.prog w = .ok (.string (mkB b)) w := by
  cases b with
  | nil => exact run_convert_bytes_zero w 44 5 Tryd.underlying44 Tryd.underlying5 A c 9 Tryd.underlying9
  | cons x r =>
    obtain ⟨g, o, rfl, hc⟩ := h (by simp)
    refine run_convert_bytes_back w 44 9 5 ⟨g, o, none⟩ c (x :: r) Tryd.underlying44 Tryd.underlying5 Tryd.underlying9 fun j hj => ?_
    rw [Go.WideShapes.add_plain, hc j hj]
    have e : (numsB (x :: r))[j]? = some (((x :: r)[j].toNat : Nat) : Int) := by unfold numsB; rw [List.getElem?_map, List.getElem?_eq_getElem hj]; rfl
    rw [List.getD, e]; rfl
/-- What is known between two files. -/
structure AllI (w : World) (L : List TX) (W : World) : Prop where
  box : ∃ A c, Boxed W w.heap.size 26 (.slice A L.length c) ∧ W.ownsRow (w.heap.size + 2) 37 3 (.slice A L.length c) L.length (gcells L)
  err : Boxed W (w.heap.size + 1) 27 (.int .i64 0)
  own : ∀ x ∈ L, TgT (w.heap.size + 2) W x
  bel : Below w.heap.size w W
theorem AllI.below {w : World} {L : List TX} {W W' : World} (h : AllI w L W) (hb : Below W.heap.size W W') : AllI w L W' := by
  obtain ⟨A, c, h1, h2⟩ := h.box
  have l1 := (Array.getElem?_eq_some_iff.1 h1).1
  have l2 := (Array.getElem?_eq_some_iff.1 h.err).1
  exact ⟨⟨A, c, (hb.block _ l1).trans h1, ownsRow_keepA h2 fun j o _ _ ho => (hb.block j (Array.getElem?_eq_some_iff.1 ho).1).trans ho⟩, (hb.block _ l2).trans h.err, fun x hx => (h.own x hx).keep hb.size fun j o _ _ ho => (hb.block j (Array.getElem?_eq_some_iff.1 ho).1).trans ho, h.bel.trans (hb.mono h.bel.size)⟩
theorem TgsAt.of_own {base : Nat} {w : World} {A : Option Addr} {c : Nat} {l : List TX} (h : w.ownsRow base 37 3 (.slice A l.length c) l.length (gcells l)) (ho : ∀ x ∈ l, TgT base w x) : TgsAt w A c l := by
  obtain ⟨A', c', e, _, h1, h2, h3⟩ := own_slice h
  cases e
  exact ⟨h1, h2, h3, fun x hx => (ho x hx).ok⟩
theorem gather_step {t : List FX} {k : Nat} {f : FX} {L : List Tg} (hf : t[k]? = some f) (h : gatherT ((flsX t).take k) (.ok []) = .ok L) : gatherT ((flsX t).take (k + 1)) (.ok []) = if isBd f.p.data.toList then (bodyT f.fl).map (L ++ ·) else .ok L := by
  rw [List.take_add_one, flsX_getElem?, hf]
  show gatherT ((flsX t).take k ++ [f.fl]) _ = _
  rw [gatherT_append, h]
  rfl
theorem gather_bad {t : List Fl} {k : Nat} {n : Int} (h : gatherT (t.take k) (.ok []) = .error n) : gatherT t (.ok []) = .error n := by
  conv => lhs; rw [← List.take_append_drop k t]
  rw [gatherT_append, h, gatherT_err]
theorem AllI.more {w wp w7 : World} {L m : List TX} {A : Option Addr} {c : Nat} {v' : Value} (h : AllI w L wp) (hbox : Boxed wp w.heap.size 26 (.slice A L.length c)) (hown : wp.ownsRow (w.heap.size + 2) 37 3 (.slice A L.length c) L.length (gcells L)) (hown' : w7.ownsRow (w.heap.size + 2) 37 3 v' (L ++ m).length (gcells (L ++ m))) (hgr : wp.grownBy w7 (blkA A)) (hm : ∀ x ∈ m, TgT (w.heap.size + 2) wp x) : AllI w (L ++ m) (w7.setCell ⟨w.heap.size, 0, none⟩ v') := by
  have hge : ∀ g, blkA A = some g → w.heap.size + 2 ≤ g ∧ ∃ cur, wp.heap[g]? = some (.cells cur 37 (0, 0)) := fun g hg => row_ge hown ((own_blk _ _ _).trans hg)
  have ho : ∀ j, j ≠ w.heap.size → (w7.setCell ⟨w.heap.size, 0, none⟩ v').heap[j]? = w7.heap[j]? := fun j hj => heap_setCell_other w7 ⟨w.heap.size, 0, none⟩ j _ hj
  have hsz : (w7.setCell ⟨w.heap.size, 0, none⟩ v').heap.size = w7.heap.size := by simp [World.setCell]
  have l1 := (Array.getElem?_eq_some_iff.1 hbox).1
  have l2 := (Array.getElem?_eq_some_iff.1 h.err).1
  have hb7 : Boxed w7 w.heap.size 26 (.slice A L.length c) := (hgr.block _ l1 (fun e => by have := (hge _ e.symm).1; omega)).trans hbox
  have he7 : Boxed w7 (w.heap.size + 1) 27 (.int .i64 0) := (hgr.block _ l2 (fun e => by have := (hge _ e.symm).1; omega)).trans h.err
  obtain ⟨A3, c3, rfl, _, _, _, _⟩ := own_slice hown'
  refine ⟨⟨A3, c3, hb7.set _, ownsRow_keepA hown' fun j o hj _ hh => (ho j (by omega)).trans hh⟩, (ho _ (by omega)).trans he7, fun x hx => ?_, (h.bel.grown hgr (by have := h.bel.size; omega) (fun k e => by have := (hge k e).1; omega)).setCell (p := ⟨w.heap.size, 0, none⟩) (Nat.le_refl _) _⟩
  have key : ∀ y, TgT (w.heap.size + 2) wp y → TgT (w.heap.size + 2) (w7.setCell ⟨w.heap.size, 0, none⟩ (.slice A3 (L ++ m).length c3)) y := fun y hy => hy.keep (by rw [hsz]; exact hgr.size) fun j cur hj _ hh => (ho j (by omega)).trans ((hgr.block j (Array.getElem?_eq_some_iff.1 hh).1 (fun e => by
    obtain ⟨_, cur', hc'⟩ := hge j e.symm
    rw [hh] at hc'
    simp at hc')).trans hh)
  rcases List.mem_append.1 hx with hx | hx
  · exact key x (h.own x hx)
  · exact key x (hm x hx)
theorem AllI.sorted {w wp w7 : World} {L L' : List TX} {A : Option Addr} {c : Nat} (h : AllI w L wp) (hbox : Boxed wp w.heap.size 26 (.slice A L.length c)) (hown : wp.ownsRow (w.heap.size + 2) 37 3 (.slice A L.length c) L.length (gcells L)) (hown' : w7.ownsRow (w.heap.size + 2) 37 3 (.slice A L.length c) L'.length (gcells L')) (hgr : wp.grownBy w7 (blkA A)) (hp : L'.Perm L) :
    AllI w L' w7 ∧ Boxed w7 w.heap.size 26 (.slice A L'.length c) ∧ TgsAt w7 A c L' := by
  have hlen := hp.length_eq
  have hge : ∀ g, blkA A = some g → w.heap.size + 2 ≤ g ∧ ∃ cur, wp.heap[g]? = some (.cells cur 37 (0, 0)) := fun g hg => row_ge hown ((own_blk _ _ _).trans hg)
  have l1 := (Array.getElem?_eq_some_iff.1 hbox).1
  have l2 := (Array.getElem?_eq_some_iff.1 h.err).1
  have hb7 : Boxed w7 w.heap.size 26 (.slice A L'.length c) := by rw [hlen]; exact (hgr.block _ l1 (fun e => by have := (hge _ e.symm).1; omega)).trans hbox
  have he7 : Boxed w7 (w.heap.size + 1) 27 (.int .i64 0) := (hgr.block _ l2 (fun e => by have := (hge _ e.symm).1; omega)).trans h.err
  rw [← hlen] at hown'
  have hT : ∀ x ∈ L', TgT (w.heap.size + 2) w7 x := fun x hx => (h.own x (hp.mem_iff.1 hx)).keep hgr.size fun j cur hj _ hh => (hgr.block j (Array.getElem?_eq_some_iff.1 hh).1 (fun e => by
    obtain ⟨_, cur', hc'⟩ := hge j e.symm
    rw [hh] at hc'
    simp at hc')).trans hh
  exact ⟨⟨⟨A, c, hb7, hown'⟩, he7, hT, h.bel.grown hgr (by have := h.bel.size; omega) (fun k e => by have := (hge k e).1; omega)⟩, hb7, TgsAt.of_own hown' hT⟩
theorem buildS : (ByteArray.mk #[66, 85, 73, 76, 68]).data.toList = buildW := by decide

set_option maxRecDepth 100000 in
set_option maxHeartbeats 16000000 in
theorem ball_any (A : Option Addr) (c : Nat) (t : List FX) (w : World) (h : TreeAt w A c t) (hl : t.length ≤ 60) (hs : ∀ f ∈ t, f.p.size ≤ 4000 ∧ f.b.length ≤ 4000) (hm : MaxOk w) :
    Calls Tryd.prog 11 #[.slice A t.length c] w (BdPost (allT (flsX t)) w) := by
  have HMX := Lib.hid (fun (W : World) (hb : Below w.heap.size w W) => hm.below hb)
  have HH := Lib.hid h
  have HS := Lib.hid hs
  obtain ⟨N, hN⟩ : ∃ N, t.length = N := ⟨_, rfl⟩
  have HN := Lib.hid hN
  rw [hN] at hl ⊢
  obtain ⟨WA, hWA⟩ : ∃ W, w.alloc (.cells #[.slice none 0 0] 26) = W := ⟨_, rfl⟩
  obtain ⟨WB, hWB⟩ : ∃ W, WA.alloc (.cells #[.int .i64 0] 27) = W := ⟨_, rfl⟩
  have zA : WA.heap.size = w.heap.size + 1 := by rw [← hWA, World.size_alloc]
  have HI0 := Lib.hid (show AllI w [] WB from ⟨⟨none, 0, by rw [← hWB, ← hWA]; exact (Boxed.new w _ _).alloc _, World.ownsRow_nil _ _ _ _⟩, by rw [← hWB, ← zA]; exact Boxed.new WA _ _, (fun x hx => by cases hx), by rw [← hWB, ← hWA]; exact ((Below.refl _ _).alloc (Nat.le_refl _) _).alloc (by simp) _⟩)
  have HWA := Lib.hid hWA
  have HWB := Lib.hid hWB
  clear h hs hm hN hWA hWB zA
  go_enter_defers Tryd.func11, Tryd.ntmps11
  go_upto_region 1 with fail
  rw [HWA.out, HWB.out]
  go_wp2_with fail
  go_loopw [10] (fun v10 wr => ∃ (k : Nat) (L : List TX), k ≤ N ∧ v10 = .int .i64 k ∧ Hid (gatherT ((flsX t).take k) (.ok []) = .ok (tgsX L)) ∧ Hid (AllI w L wr) ∧ L.length ≤ 4001 * k ∧ Hid (SzT 20000 (tgsX L)) ∧ Hid (∀ x ∈ L, x.d.length ≤ 20000)) (fun v10 _ => N - (intOf v10).toNat)
  case atStart => exact ⟨0, [], Nat.zero_le _, rfl, rfl, HI0.out, Nat.le_refl _, (fun x hx => by cases hx), (fun x hx => by cases hx)⟩
  case round =>
    obtain ⟨k, L, hk, rfl, HG, HI, hLk, HSZ, HDZ⟩ := hrel
    have HB := Lib.hid HI.out.bel
    by_cases h1 : k < N
    · have k1 : (k : Int) < (N : Int) := by omega
      obtain ⟨f, hf⟩ : ∃ f, t[k]? = some f := ⟨_, List.getElem?_eq_getElem (by rw [HN.out]; exact h1)⟩
      have hfm := List.mem_of_getElem? hf
      obtain ⟨fz1, fz2⟩ := HS.out f hfm
      have hat := HH.out.below HB.out
      obtain ⟨g, o, hA, hr⟩ := hat.row (by rw [HN.out]; omega)
      subst hA
      obtain ⟨d0, d1⟩ := hr k f hf
      have hby := hat.files f hfm
      have HST := Lib.hid (gather_step hf HG.out)
      obtain ⟨fp, fA, fc, fb⟩ := f
      simp only at fz1 fz2 d0 d1 hby
      obtain ⟨nb, hnb⟩ : ∃ nb, fb.length = nb := ⟨_, rfl⟩
      rw [hnb] at d1
      have HNB := Lib.hid hnb
      obtain ⟨B5, hB5⟩ : ∃ B5, wr.heap.size = B5 := ⟨_, rfl⟩
      obtain ⟨W5, hW5⟩ : ∃ W, wr.alloc (.cells #[.string fp, .slice fA nb fc] 49) = W := ⟨_, rfl⟩
      have hb5 : Below wr.heap.size wr W5 := by rw [← hW5]; exact (Below.refl _ _).alloc (Nat.le_refl _) _
      have hn5 : W5.heap[B5]? = some (.cells #[.string fp, .slice fA nb fc] 49 (0, 0)) := by rw [← hW5, ← hB5]; exact heap_alloc_new _ _
      have b0 := cell_of_row _ _ 0 _ _ _ hn5
      have b1 := cell_of_row _ _ 1 _ _ _ hn5
      simp only [List.getElem?_toArray, List.getElem?_cons_zero, List.getElem?_cons_succ] at b0 b1
      have HBY := Lib.hid (hby.below hb5)
      have HI5 := Lib.hid (HI.out.below hb5)
      have hB5' : B5 < W5.heap.size := (Array.getElem?_eq_some_iff.1 hn5).1
      have HW5 := Lib.hid hW5
      have HB5 := Lib.hid hB5
      clear hnb hf hfm hat hr hby hb5 hn5 hW5 hB5
      have hB5 := hB5'
      clear hB5'
      obtain ⟨bz, hbz⟩ : ∃ bz, baseA fp = bz := ⟨_, rfl⟩
      have hbd : isBd fp.data.toList = (bz.toList == (ByteArray.mk #[66, 85, 73, 76, 68]).toList) := by
        unfold isBd
        rw [← base_list, hbz, ByteArray.toList_eq, ByteArray.toList_eq, buildS]
      have HBA := Lib.hid (fun W => base_any fp W (by omega))
      rw [hbz] at HBA
      have HBD := Lib.hid hbd
      clear hbz hbd
      cases hq : (bz.toList == (ByteArray.mk #[66, 85, 73, 76, 68]).toList) with
      | false =>
        have HQ := Lib.hid hq
        have hst2 : gatherT ((flsX t).take (k + 1)) (.ok []) = .ok (tgsX L) := by
          rw [HST.out]
          show (if isBd fp.data.toList then _ else _) = _
          rw [HBD.out, HQ.out]; rfl
        have HST2 := Lib.hid hst2
        have hq2 : (bz.toList == [66, 85, 73, 76, 68]) = false := by have := HQ.out; rwa [ByteArray.toList_eq (ByteArray.mk #[66, 85, 73, 76, 68])] at this
        clear hst2 hq
        go_upto_region 5 with fail
        rw [HW5.out, HB5.out]
        clear d0 d1
        go_wp2_with fail
        refine (HBA.out W5).mono ?_
        rintro e w1 ⟨rfl, hw1⟩
        have hw1 := hw1.symm
        subst hw1
        go_wp2_with fail
        go_roundw
        case rel => exact ⟨k + 1, L, by omega, by go_num, HST2.out, HI5.out, by omega, HSZ.out, HDZ.out⟩
        case measure => simp [intOf]; omega
      | true =>
        have HQ := Lib.hid hq
        have hst2 : gatherT ((flsX t).take (k + 1)) (.ok []) = (bodyT (fp.data.toList, fb)).map (tgsX L ++ ·) := by
          rw [HST.out]
          show (if isBd fp.data.toList then _ else _) = _
          rw [HBD.out, HQ.out]; rfl
        have HST2 := Lib.hid hst2
        have hq2 : (bz.toList == [66, 85, 73, 76, 68]) = true := by have := HQ.out; rwa [ByteArray.toList_eq (ByteArray.mk #[66, 85, 73, 76, 68])] at this
        have hdl : (dirL fp.data.toList).length ≤ 4000 := by
          have : (dirL fp.data.toList).length ≤ fp.data.toList.length := by
            unfold dirL
            rw [List.length_reverse, List.length_drop]
            have h5 := (List.dropWhile_sublist (fun c : UInt8 => c != 47) (l := fp.data.toList.reverse)).length_le
            rw [List.length_reverse] at h5
            omega
          have h6 : fp.data.toList.length = fp.size := Array.length_toList
          omega
        have hpa := bparseT_any (mkB (dirL fp.data.toList)) (mkB fb) W5.drew (by rw [mkB_size]; omega) ((HMX.out W5 HI5.out.bel).belowN (n := W5.heap.size) (Below.refl _ W5).drew (Nat.le_refl _))
        rw [mkB_data, mkB_data] at hpa
        have hsz := parseB_sz (dir := dirL fp.data.toList) (s := fb)
        obtain ⟨PP, hPP⟩ : ∃ PP, parseB (dirL fp.data.toList) fb = PP := ⟨_, rfl⟩
        have hbt : bodyT (fp.data.toList, fb) = if PP.1 = 0 then .ok PP.2 else .error PP.1 := by unfold bodyT; rw [hPP]
        rw [hPP] at hpa hsz
        obtain ⟨PE, PL⟩ := PP
        have HPA := Lib.hid hpa
        have HSP := Lib.hid hsz
        have HBT := Lib.hid hbt
        clear hst2 hq hpa hsz hPP hbt
        go_upto_region 5 with fail
        rw [HW5.out, HB5.out]
        clear d0 d1
        go_wp2_with fail
        refine (HBA.out W5).mono ?_
        rintro e w1 ⟨rfl, hw1⟩
        have hw1 := hw1.symm
        subst hw1
        go_upto_region 6 with fail
        refine wp_region_held_drew (S := (fun w' => w'.cell? ⟨B5, 0, none⟩ = some (.string fp) ∧ w'.cell? ⟨B5, 1, none⟩ = some (.slice fA nb fc) ∧ BytesAt w' fA fb)) (by kernel_rfl) ⟨b0, b1, HBY.out⟩ (fun hHeld => ?_)
        refine wpAnyH_take (i := 0) (v := ?va0) rfl (by kernel_rfl) (by kernel_rfl) (by kernel_rfl) (fun _ _ _ h => all_door 19 _ (by decide) (by decide) h) (Or.inl ⟨by rfl, ?ya0⟩) (by assumption) ?ra0
        case ya0 =>
          intro w hSw
          (try dsimp only at hSw)
          go_simp
          first | done | with_reducible rfl
        try simp only [Act.put, List.getElem_toArray, List.getElem_cons_zero, List.setIfInBounds_toArray, List.set_cons_zero, List.set_cons_succ]
        refine wpAnyH_take (i := 1) (v := ?va1) rfl (by kernel_rfl) (by kernel_rfl) (by kernel_rfl) (fun _ _ _ h => all_door 20 _ (by decide) (by decide) h) (Or.inl ⟨by rfl, ?ya1⟩) (by assumption) ?ra1
        case ya1 =>
          intro w hSw
          (try dsimp only at hSw)
          go_simp
          first | done | with_reducible rfl
        try simp only [Act.put, List.getElem_toArray, List.getElem_cons_zero, List.getElem_cons_succ, List.setIfInBounds_toArray, List.set_cons_zero, List.set_cons_succ]
        refine wpAnyH_take (i := 3) (v := ?va3) rfl (by kernel_rfl) (by kernel_rfl) (by kernel_rfl) (fun _ _ _ h => all_door 22 _ (by decide) (by decide) h) (Or.inl ⟨by rfl, ?ya3⟩) (by assumption) ?ra3
        case ya3 =>
          intro w hSw
          (try dsimp only at hSw)
          go_simp
          first | done | with_reducible rfl
        try simp only [Act.put, List.getElem_toArray, List.getElem_cons_zero, List.getElem_cons_succ, List.setIfInBounds_toArray, List.set_cons_zero, List.set_cons_succ]
        refine wpAnyH_take (i := 4) (v := ?va4) rfl (by kernel_rfl) (by kernel_rfl) (by kernel_rfl) (fun _ _ _ h => all_door 23 _ (by decide) (by decide) h) (Or.inl ⟨by rfl, ?ya4⟩) (by assumption) ?ra4
        case ya4 =>
          intro w hSw
          (try dsimp only at hSw)
          go_simp
          first | done | with_reducible rfl
        try simp only [Act.put, List.getElem_toArray, List.getElem_cons_zero, List.getElem_cons_succ, List.setIfInBounds_toArray, List.set_cons_zero, List.set_cons_succ]
        refine wpAnyH_take (i := 5) (v := ?va5) rfl (by kernel_rfl) (by kernel_rfl) (by kernel_rfl) (fun _ _ _ h => all_door 24 _ (by decide) (by decide) h) (Or.inl ⟨by rfl, ?ya5⟩) (by assumption) ?ra5
        case ya5 =>
          intro w hSw
          (try dsimp only at hSw)
          have hcv := brun_str w fA fc fb hSw.2.2
          rw [HNB.out] at hcv
          go_simp
          first | done | with_reducible rfl
        try simp only [Act.put, List.getElem_toArray, List.getElem_cons_zero, List.getElem_cons_succ, List.setIfInBounds_toArray, List.set_cons_zero, List.set_cons_succ]
        refine wpAnyH_ready (rs := [2]) (by kernel_rfl) (by simp) ?_
        refine AllReadyH.cons rfl (fun K hK => ?_) AllReadyH.nil
        go_simp
        refine (pdir_any fp _ (by omega)).mono ?_
        rintro e wd ⟨rfl, hwd⟩
        rw [← hwd]
        clear hwd
        refine hK.out _ _ ⟨b0, b1, HBY.out⟩ (fun hHeld => ?_)
        clear hK K
        try simp only [Act.put, List.getElem_toArray, List.getElem_cons_zero, List.getElem_cons_succ, List.setIfInBounds_toArray, List.set_cons_zero, List.set_cons_succ]
        refine wpAnyH_ready (rs := [6]) (by kernel_rfl) (by simp) ?_
        refine AllReadyH.cons rfl (fun K hK => ?_) AllReadyH.nil
        go_simp
        refine HPA.out.mono ?_
        rintro e wp ⟨A2, c2, m, rfl, hat2, hnc2, hown2, hl2, hb2'⟩
        have hb2 : Below W5.heap.size W5 wp := (Below.refl _ W5).drew.trans hb2'
        have bb0 := (hb2.cell (p := ⟨B5, 0, none⟩) hB5).trans b0
        have bb1 := (hb2.cell (p := ⟨B5, 1, none⟩) hB5).trans b1
        have HBY2 := Lib.hid (HBY.out.below hb2)
        have HB2P := Lib.hid hb2
        have HAT2 := Lib.hid hat2
        have HOWN2 := Lib.hid hown2
        have HNC2 := Lib.hid hnc2
        have HL2 := Lib.hid (show tgsX m = PL from hl2)
        clear hat2 hown2 hnc2 hl2 hb2 hb2'
        obtain ⟨n2, hn2⟩ : ∃ n2, m.length = n2 := ⟨_, rfl⟩
        rw [hn2]
        have HN2 := Lib.hid hn2
        clear hn2
        refine hK.out _ _ ⟨bb0, bb1, HBY2.out⟩ (fun hHeld => ?_)
        clear hK K
        try simp only []
        refine wpAnyH_take (i := 7) (v := ?vb7) rfl (by kernel_rfl) (by kernel_rfl) (by kernel_rfl) (fun _ _ _ h => all_door 18 _ (by decide) (by decide) h) (Or.inl ⟨by rfl, ?yb7⟩) (by assumption) ?rb7
        case yb7 =>
          intro w hSw
          (try dsimp only at hSw)
          go_simp
          first | done | with_reducible rfl
        try simp only [Act.put, List.getElem_toArray, List.getElem_cons_zero, List.getElem_cons_succ, List.setIfInBounds_toArray, List.set_cons_zero, List.set_cons_succ]
        refine wpAnyH_take (i := 8) (v := ?vb8) rfl (by kernel_rfl) (by kernel_rfl) (by kernel_rfl) (fun _ _ _ h => all_door 26 _ (by decide) (by decide) h) (Or.inl ⟨by rfl, ?yb8⟩) (by assumption) ?rb8
        case yb8 =>
          intro w hSw
          (try dsimp only at hSw)
          go_simp
          first | done | with_reducible rfl
        try simp only [Act.put, List.getElem_toArray, List.getElem_cons_zero, List.getElem_cons_succ, List.setIfInBounds_toArray, List.set_cons_zero, List.set_cons_succ]
        refine wpAnyH_take (i := 9) (v := ?vb9) rfl (by kernel_rfl) (by kernel_rfl) (by kernel_rfl) (fun _ _ _ h => all_door 27 _ (by decide) (by decide) h) (Or.inl ⟨by rfl, ?yb9⟩) (by assumption) ?rb9
        case yb9 =>
          intro w hSw
          (try dsimp only at hSw)
          go_simp
          first | done | with_reducible rfl
        try simp only [Act.put, List.getElem_toArray, List.getElem_cons_zero, List.getElem_cons_succ, List.setIfInBounds_toArray, List.set_cons_zero, List.set_cons_succ]
        refine wpAnyH_take (i := 10) (v := ?vb10) rfl (by kernel_rfl) (by kernel_rfl) (by kernel_rfl) (fun _ _ _ h => all_door 6 _ (by decide) (by decide) h) (Or.inl ⟨by rfl, ?yb10⟩) (by assumption) ?rb10
        case yb10 =>
          intro w hSw
          (try dsimp only at hSw)
          go_simp
          first | done | with_reducible rfl
        try simp only [Act.put, List.getElem_toArray, List.getElem_cons_zero, List.getElem_cons_succ, List.setIfInBounds_toArray, List.set_cons_zero, List.set_cons_succ]
        refine wpAnyH_take (i := 11) (v := ?vb11) rfl (by kernel_rfl) (by kernel_rfl) (by kernel_rfl) (fun _ _ _ h => all_door 7 _ (by decide) (by decide) h) (Or.inl ⟨by rfl, ?yb11⟩) (by assumption) ?rb11
        case yb11 =>
          intro w hSw
          (try dsimp only at hSw)
          go_simp
          first | done | with_reducible rfl
        try simp only [Act.put, List.getElem_toArray, List.getElem_cons_zero, List.getElem_cons_succ, List.setIfInBounds_toArray, List.set_cons_zero, List.set_cons_succ]
        refine wpAnyH_done (by kernel_rfl) ?_ _
        clear hHeld bb0 bb1
        have hn2 := HN2.out
        subst hn2
        have HIP := Lib.hid (HI5.out.below HB2P.out)
        obtain ⟨AL, cL, hbx, hox⟩ := HIP.out.box
        have hex := HIP.out.err
        have e1 := hbx.cell
        have f1 := hbx.frozen
        have e2 := hex.cell
        have f2 := hex.frozen
        by_cases hp0 : PE = 0
        · subst hp0
          have hg2 : gatherT ((flsX t).take (k + 1)) (.ok []) = .ok (tgsX (L ++ m)) := by
            rw [HST2.out, HBT.out, if_pos rfl, tgsX_append, HL2.out]; rfl
          have HG2 := Lib.hid hg2
          have HML := Lib.hid (show m.length ≤ 4001 by
            have h5 := HSP.out.2.1
            rw [← HL2.out, tgsX_length] at h5
            omega)
          have hml := HML.out
          obtain ⟨nL, hnL⟩ : ∃ nL, L.length = nL := ⟨_, rfl⟩
          have HBX := Lib.hid hbx
          have HOX := Lib.hid hox
          rw [hnL] at e1
          have HNL := Lib.hid hnL
          clear hg2 hbx hox hex hnL
          go_upto_region 10 with (at_builtin; go_loud (refine wpList_append_tgs rfl _ _ rfl (w.heap.size + 2) (.slice AL L.length cL) A2 c2 L m (by rw [HNL.out]; rfl) HOX.out rfl HAT2.out HNC2.out (by omega) (by have := (Array.getElem?_eq_some_iff.1 HIP.out.err).1; omega) ?_; intro v7 w7 hown7 hgr7; rw [own_blk] at hgr7; obtain ⟨A7, c7q, hv7, -, -, -, -⟩ := own_slice hown7; subst hv7; obtain ⟨nM, hnM⟩ : ∃ q, (L ++ m).length = q := ⟨_, rfl⟩; have HO7 := Lib.hid (show w7.ownsRow (w.heap.size + 2) 37 3 (.slice A7 nM c7q) (L ++ m).length (gcells (L ++ m)) by rw [← hnM]; exact hown7); rw [hnM]; clear hnM; have HG7 := Lib.hid hgr7; have hbk7 : w7.heap[w.heap.size]? = wp.heap[w.heap.size]? := hgr7.block _ (Array.getElem?_eq_some_iff.1 HBX.out).1 (fun e => by have := (row_ge HOX.out ((own_blk _ _ _).trans e.symm)).1; omega); have c7 : w7.cell? ⟨w.heap.size, 0, none⟩ = some (.slice AL nL cL) := (World.cell?_of_block (a := ⟨w.heap.size, 0, none⟩) hbk7).trans e1; have g7 : w7.frozen? ⟨w.heap.size, 0, none⟩ = false := Boxed.frozen (v := .slice AL L.length cL) (t := 26) (hbk7.trans HBX.out); clear hown7 hgr7 hbk7))
          have hI7 := HIP.out.more HBX.out HOX.out HO7.out HG7.out (fun x hx => (HOWN2.out x hx).lower (by have := (Array.getElem?_eq_some_iff.1 HI5.out.err).1; show w.heap.size + 2 ≤ W5.drew.heap.size; show w.heap.size + 2 ≤ W5.heap.size; omega))
          have HI7 := Lib.hid hI7
          clear c7 g7 e1 f1 e2 f2 hI7
          go_wp2_with fail
          go_roundw
          case rel =>
            refine ⟨k + 1, L ++ m, by omega, by go_num, HG2.out, HI7.out, by rw [List.length_append]; omega, ?_, ?_⟩
            · intro x hx
              rw [tgsX_append] at hx
              rcases List.mem_append.1 hx with hx | hx
              · exact HSZ.out x hx
              · have h5 := HSP.out.1
                rw [← HL2.out] at h5
                obtain ⟨a1, a2⟩ := h5 x hx
                exact ⟨by omega, fun d hd => by have := a2 d hd; omega⟩
            · intro x hx
              rcases List.mem_append.1 hx with hx | hx
              · exact HDZ.out x hx
              · have h5 := HSP.out.2.2
                rw [← HL2.out] at h5
                have h6 := (h5 x.tg (List.mem_map.2 ⟨x, hx, rfl⟩)).2
                have e : x.tg.d = x.d := rfl
                rw [e] at h6
                omega
          case measure => simp [intOf]; omega
        · have p1 : (PE == 0) = false := beq_eq_false_iff_ne.2 hp0
          have p2 : (PE != 0) = true := bne_iff_ne.2 hp0
          have hall : allT (flsX t) = (PE, []) := by
            unfold allT
            rw [gather_bad (k := k + 1) (n := PE) (by rw [HST2.out, HBT.out, if_neg hp0]; rfl)]
          have HALL := Lib.hid hall
          have HP0 := Lib.hid hp0
          have HBX := Lib.hid hbx
          have HEX := Lib.hid hex
          have HBP := Lib.hid HIP.out.bel
          clear hall hp0 hbx hox hex
          go_wp2_with fail
          have x1 := HBX.out.set (.slice none 0 0)
          have x2 : Boxed (wp.setCell ⟨w.heap.size, 0, none⟩ (.slice none 0 0)) (w.heap.size + 1) 27 (.int .i64 0) := (heap_setCell_other _ ⟨w.heap.size, 0, none⟩ (w.heap.size + 1) _ (by show w.heap.size + 1 ≠ w.heap.size; omega)).trans HEX.out
          have y1 : Boxed ((wp.setCell ⟨w.heap.size, 0, none⟩ (.slice none 0 0)).setCell ⟨w.heap.size + 1, 0, none⟩ (.int .i64 PE)) w.heap.size 26 (.slice none 0 0) := (heap_setCell_other _ ⟨w.heap.size + 1, 0, none⟩ w.heap.size _ (by show w.heap.size ≠ w.heap.size + 1; omega)).trans x1
          have y2 := x2.set (.int .i64 PE)
          have hbv := (HBP.out.setCell (p := ⟨w.heap.size, 0, none⟩) (Nat.le_refl _) (.slice none 0 0)).setCell (p := ⟨w.heap.size + 1, 0, none⟩) (Nat.le_succ _) (.int .i64 PE)
          generalize (wp.setCell ⟨w.heap.size, 0, none⟩ (.slice none 0 0)).setCell ⟨w.heap.size + 1, 0, none⟩ (.int .i64 PE) = V at *
          refine leaves_cons (f := 21) (args := #[.pointer (some ⟨w.heap.size, 0, none⟩), .pointer (some ⟨w.heap.size + 1, 0, none⟩)]) (by simp) (by simp [go_sem]) ?_
          refine (btoldD_err w.heap.size (w.heap.size + 1) _ PE V .returning y1 y2 HP0.out).mono ?_
          rintro e u' w' ⟨rfl, rfl, rfl⟩
          have c5 := (y1.set (.slice none 0 0)).cell
          have c6 : Boxed (V.setCell ⟨w.heap.size, 0, none⟩ (.slice none 0 0)) (w.heap.size + 1) 27 (.int .i64 PE) := (heap_setCell_other _ ⟨w.heap.size, 0, none⟩ (w.heap.size + 1) _ (by show w.heap.size + 1 ≠ w.heap.size; omega)).trans y2
          have c7 := c6.cell
          refine ⟨.tuple #[.slice none 0 0, .int .i64 PE], by simp [results, Tryd.f11, go_sem, c5, c7], ?_⟩
          exact ⟨none, 0, [], by rw [HALL.out]; rfl, TgsAt.nil0 _, by rw [HALL.out]; rfl, hbv.setCell (p := ⟨w.heap.size, 0, none⟩) (Nat.le_refl _) _⟩
    · obtain rfl : k = N := by omega
      have hga : gatherT (flsX t) (.ok []) = .ok (tgsX L) := by
        have := HG.out
        rwa [List.take_of_length_le (by rw [flsX_length, HN.out]; exact Nat.le_refl _)] at this
      have HGA := Lib.hid hga
      obtain ⟨A3, c3, hbx, hox⟩ := HI.out.box
      obtain ⟨n3, hn3⟩ : ∃ n3, L.length = n3 := ⟨_, rfl⟩
      have HSO := bsort_all (w.heap.size + 2) L A3 c3 wr hox (by omega)
      have HBX := Lib.hid hbx
      have HOX := Lib.hid hox
      have e1 := hbx.cell
      rw [hn3] at e1
      rw [hn3] at HSO
      have HSO := Lib.hid HSO
      have HN3 := Lib.hid hn3
      clear hga hbx hox hn3
      go_wp2_with fail
      refine HSO.out.mono ?_
      rintro e w8 ⟨rfl, L', hperm, hpair, hown8, hgr8⟩
      obtain ⟨hI8, hB8, hT8⟩ := HI.out.sorted HBX.out HOX.out hown8 hgr8 hperm
      have hl8 : L'.length = n3 := hperm.length_eq.trans HN3.out
      have HW8 := bwhole_any A3 c3 L' w8.drew (hT8.below (Below.refl _ _).drew) (by have := HN3.out; omega) (fun x hx => by
        have hx2 := hperm.mem_iff.1 hx
        have a1 := HSZ.out x.tg (List.mem_map.2 ⟨x, hx2, rfl⟩)
        have a2 := HDZ.out x hx2
        have e3 : x.n.data.toList.length = x.n.size := Array.length_toList
        refine ⟨?_, by omega, fun d hd => ?_⟩
        · have : x.n.data.toList.length ≤ 20000 := a1.1
          omega
        · have := a1.2 d hd
          omega)
      have hwp : wholeT (tgsX L') = wholeT (tgsX L) := wholeT_perm (hperm.map TX.tg)
      obtain ⟨WN, hWN⟩ : ∃ WN, wholeT (tgsX L') = WN := ⟨_, rfl⟩
      rw [hl8] at HW8
      rw [hl8] at hB8
      have HWH := Lib.hid HW8
      have HX8 := Lib.hid hB8
      have HI8 := Lib.hid hI8
      have HAT8 := Lib.hid hT8
      have HPERM := Lib.hid hperm
      have HPAIR := Lib.hid hpair
      have HWN := Lib.hid hWN
      have HWP := Lib.hid hwp
      have HL8 := Lib.hid hl8
      have k1 := hB8.cell
      clear HW8 hB8 hI8 hT8 hperm hpair hWN hwp hl8 hown8 hgr8 e1
      go_upto_region 12 with fail
      refine wp_region_held_drew (S := (fun w' => w'.cell? ⟨w.heap.size, 0, none⟩ = some (.slice A3 n3 c3))) (by kernel_rfl) k1 (fun hHeld => ?_)
      refine wpAnyH_take (i := 0) (v := ?vp0) rfl (by kernel_rfl) (by kernel_rfl) (by kernel_rfl) (fun _ _ _ h => all_door 37 _ (by decide) (by decide) h) (Or.inl ⟨by rfl, ?yp0⟩) (by assumption) ?rp0
      case yp0 =>
        intro w hSw
        (try dsimp only at hSw)
        go_simp
        first | done | with_reducible rfl
      try simp only [Act.put, List.getElem_toArray, List.getElem_cons_zero, List.setIfInBounds_toArray, List.set_cons_zero, List.set_cons_succ]
      refine wpAnyH_take (i := 1) (v := ?vp1) rfl (by kernel_rfl) (by kernel_rfl) (by kernel_rfl) (fun _ _ _ h => all_door 38 _ (by decide) (by decide) h) (Or.inl ⟨by rfl, ?yp1⟩) (by assumption) ?rp1
      case yp1 =>
        intro w hSw
        (try dsimp only at hSw)
        go_simp
        first | done | with_reducible rfl
      try simp only [Act.put, List.getElem_toArray, List.getElem_cons_zero, List.getElem_cons_succ, List.setIfInBounds_toArray, List.set_cons_zero, List.set_cons_succ]
      refine wpAnyH_ready (rs := [2]) (by kernel_rfl) (by simp) ?_
      refine AllReadyH.cons rfl (fun K hK => ?_) AllReadyH.nil
      go_simp
      refine (HWH.out).mono ?_
      rintro e w9 ⟨rfl, hb9'⟩
      have hb9 : Below w8.heap.size w8 w9 := (Below.refl _ w8).drew.trans hb9'
      have HI9 := Lib.hid (HI8.out.below hb9)
      have x91 : Boxed w9 w.heap.size 26 (.slice A3 n3 c3) := (hb9.block _ (Array.getElem?_eq_some_iff.1 HX8.out).1).trans HX8.out
      have x92 := HI9.out.err
      have HAT9 := Lib.hid (HAT8.out.below hb9)
      have y1 := x91.cell
      have g1 := x91.frozen
      have y2 := x92.cell
      have g2 := x92.frozen
      have X91 := Lib.hid x91
      have X92 := Lib.hid x92
      clear x91 x92 hb9 hb9'
      rw [HWN.out]
      refine hK.out _ _ y1 (fun hHeld => ?_)
      clear hK K
      try simp only [Act.put, List.getElem_toArray, List.getElem_cons_zero, List.getElem_cons_succ, List.setIfInBounds_toArray, List.set_cons_zero, List.set_cons_succ]
      refine wpAnyH_ready (rs := [3]) (by kernel_rfl) (by simp) ?_
      refine AllReadyH.cons rfl (fun K hK => ?_) AllReadyH.nil
      go_simp
      obtain ⟨V1, hV1⟩ : ∃ V, World.setCell w9 ⟨w.heap.size, 0, none⟩ (.slice A3 n3 c3) = V := ⟨_, rfl⟩
      have v1 : Boxed V1 w.heap.size 26 (.slice A3 n3 c3) := by rw [← hV1]; exact X91.out.set _
      have v2 : Boxed V1 (w.heap.size + 1) 27 (.int .i64 0) := by rw [← hV1]; exact (heap_setCell_other _ ⟨w.heap.size, 0, none⟩ (w.heap.size + 1) _ (by show w.heap.size + 1 ≠ w.heap.size; omega)).trans X92.out
      have k2 := v2.cell
      have l2 := v2.frozen
      have k1' := v1.cell
      have VV1 := Lib.hid v1
      have VV2 := Lib.hid v2
      have HV1 := Lib.hid hV1
      clear v1 v2 y1 g1 y2 g2
      rw [HV1.out]
      refine hK.out _ _ k1' (fun hHeld => ?_)
      clear hK K
      try simp only [Act.put, List.getElem_toArray, List.getElem_cons_zero, List.getElem_cons_succ, List.setIfInBounds_toArray, List.set_cons_zero, List.set_cons_succ]
      refine wpAnyH_ready (rs := [4]) (by kernel_rfl) (by simp) ?_
      refine AllReadyH.cons rfl (fun K hK => ?_) AllReadyH.nil
      go_simp
      obtain ⟨V2, hV2⟩ : ∃ V, World.setCell V1 ⟨w.heap.size + 1, 0, none⟩ (.int .i64 WN) = V := ⟨_, rfl⟩
      have v1 : Boxed V2 w.heap.size 26 (.slice A3 n3 c3) := by rw [← hV2]; exact (heap_setCell_other _ ⟨w.heap.size + 1, 0, none⟩ w.heap.size _ (by show w.heap.size ≠ w.heap.size + 1; omega)).trans VV1.out
      have v2 : Boxed V2 (w.heap.size + 1) 27 (.int .i64 WN) := by rw [← hV2]; exact VV2.out.set _
      have k1'' := v1.cell
      have U1 := Lib.hid v1
      have U2 := Lib.hid v2
      have HV2 := Lib.hid hV2
      clear v1 v2 k2 l2 k1'
      rw [HV2.out]
      refine hK.out _ _ k1'' (fun hHeld => ?_)
      clear hK K
      try simp only [Act.put, List.getElem_toArray, List.getElem_cons_zero, List.getElem_cons_succ, List.setIfInBounds_toArray, List.set_cons_zero, List.set_cons_succ]
      refine wpAnyH_done (by kernel_rfl) ?_ _
      clear hHeld k1 k1''
      go_wp2_with fail
      refine leaves_cons (f := 21) (args := #[.pointer (some ⟨w.heap.size, 0, none⟩), .pointer (some ⟨w.heap.size + 1, 0, none⟩)]) (by simp) (by simp [go_sem]) ?_
      have hbv : Below w.heap.size w V2 := by
        rw [← HV2.out, ← HV1.out]
        exact (HI9.out.bel.setCell (p := ⟨w.heap.size, 0, none⟩) (Nat.le_refl _) _).setCell (p := ⟨w.heap.size + 1, 0, none⟩) (Nat.le_succ _) _
      by_cases hw0 : WN = 0
      · subst hw0
        refine (btoldD_ok w.heap.size (w.heap.size + 1) _ V2 .returning U1.out U2.out).mono ?_
        rintro e u' w' ⟨rfl, rfl, hw'⟩
        have hw' := hw'.symm
        subst hw'
        have c5 := U1.out.cell
        have c7 := U2.out.cell
        refine ⟨.tuple #[.slice A3 n3 c3, .int .i64 0], by simp [results, Tryd.f11, go_sem, c5, c7], ?_⟩
        have hw2 : wholeT (tgsX L) = 0 := HWP.out.symm.trans HWN.out
        have hall : allT (flsX t) = (0, sortN (tgsX L)) := by
          unfold allT
          rw [HGA.out]
          show (if wholeT (tgsX L) = 0 then _ else _) = _
          rw [if_pos hw2]
        have hso : tgsX L' = sortN (tgsX L) := allT_sorted (HPERM.out.map TX.tg) (by
          unfold tgsX
          rw [List.pairwise_map]
          exact HPAIR.out) hw2
        have hlen := HL8.out
        subst hlen
        have hAT : TgsAt V2 A3 c3 L' := by
          have h9 := HI9.out
          have o1 : ∀ j, j ≠ w.heap.size → j ≠ w.heap.size + 1 → V2.heap[j]? = w9.heap[j]? := fun j h1 h2 => by
            rw [← HV2.out, ← HV1.out]
            exact (heap_setCell_other _ ⟨w.heap.size + 1, 0, none⟩ j _ h2).trans (heap_setCell_other _ ⟨w.heap.size, 0, none⟩ j _ h1)
          obtain ⟨A9, c9, hb9, hw9⟩ := h9.box
          have e9 := hb9.symm.trans X91.out
          simp only [Option.some.injEq, Obj.cells.injEq, Array.mk.injEq, List.cons.injEq, Value.slice.injEq, true_and, and_true] at e9
          obtain ⟨rfl, rfl⟩ := e9
          exact TgsAt.of_own (base := w.heap.size + 2) (ownsRow_keepA hw9 fun j o hj _ ho => (o1 j (by omega) (by omega)).trans ho) fun x hx => (h9.own x hx).keep (by rw [← HV2.out, ← HV1.out]; simp [World.setCell]) fun j cur hj _ ho => (o1 j (by omega) (by omega)).trans ho
        exact ⟨A3, c3, L', by rw [hall], hAT, by rw [hall]; exact hso, hbv⟩
      · refine (btoldD_err w.heap.size (w.heap.size + 1) _ WN V2 .returning U1.out U2.out hw0).mono ?_
        rintro e u' w' ⟨rfl, rfl, rfl⟩
        have c5 := (U1.out.set (.slice none 0 0)).cell
        have c6 : Boxed (V2.setCell ⟨w.heap.size, 0, none⟩ (.slice none 0 0)) (w.heap.size + 1) 27 (.int .i64 WN) := (heap_setCell_other _ ⟨w.heap.size, 0, none⟩ (w.heap.size + 1) _ (by show w.heap.size + 1 ≠ w.heap.size; omega)).trans U2.out
        have c7 := c6.cell
        refine ⟨.tuple #[.slice none 0 0, .int .i64 WN], by simp [results, Tryd.f11, go_sem, c5, c7], ?_⟩
        have hall : allT (flsX t) = (WN, []) := by
          unfold allT
          rw [HGA.out]
          show (if wholeT (tgsX L) = 0 then _ else _) = _
          have hw2 : wholeT (tgsX L) = WN := HWP.out.symm.trans HWN.out
          rw [hw2, if_neg hw0]
        exact ⟨none, 0, [], by rw [hall]; rfl, TgsAt.nil0 _, by rw [hall]; rfl, hbv.setCell (p := ⟨w.heap.size, 0, none⟩) (Nat.le_refl _) _⟩
end Go.Proofs.YtckpojkbcbogbaaDoor
