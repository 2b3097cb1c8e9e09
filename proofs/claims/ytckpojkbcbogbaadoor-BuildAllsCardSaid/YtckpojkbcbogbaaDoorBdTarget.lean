/-
  The contract of the reader's act target. (gen_bdtarget.py)
-/
import Derived.Test.YtckpojkbcbogbaaDoorBdRdr
import Derived.Test.YtckpojkbcbogbaaDoorBdDepA
import Derived.BigQuiet
namespace Go.Proofs.YtckpojkbcbogbaaDoor
open Go Go.RowKit Go.Shelf Go.Proofs Go.ChangeMaps Go.Maps Go.WideMaps
attribute [local go_sem] Oper.semAt_some

theorem skeyedB : Keyed Tryd.prog 9 := string_keyed Tryd.underlying9
theorem zero_unitB (w : World) : (zeroValue 93).run Tryd.prog w = .ok (.agg #[]) w := by kernel_rfl
theorem hasN_map (l : List Tg) (n : Bs) : hasN l n = true ↔ n ∈ l.map (·.n) := by
  unfold hasN
  rw [List.any_eq_true]
  simp only [List.mem_map, beq_iff_eq]
theorem targetT_bad (dir : Bs) (l : List Tg) (t : Bs) (h : namedT t = false) : targetT dir l t = .error 11 := by unfold targetT; rw [h]; rfl
theorem targetT_twice (dir : Bs) (l : List Tg) (t : Bs) (h : namedT t = true) (h2 : dir ++ 58 :: t ∈ l.map (·.n)) : targetT dir l t = .error 12 := by unfold targetT; rw [h, (hasN_map l _).2 h2]; rfl
theorem targetT_new (dir : Bs) (L : List TX) (t : Bs) (n : ByteArray) (hn : n.data.toList = dir ++ 58 :: t) (h : namedT t = true) (h2 : ¬ dir ++ 58 :: t ∈ (tgsX L).map (·.n)) : targetT dir (tgsX L) t = .ok (tgsX (L ++ [newX n])) := by
  have e : hasN (tgsX L) (dir ++ 58 :: t) = false := by
    cases h3 : hasN (tgsX L) (dir ++ 58 :: t) with
    | false => rfl
    | true => exact absurd ((hasN_map _ _).1 h3) h2
  unfold targetT
  rw [h, e, tgsX_snoc]
  simp [newX, TX.tg, hn]
theorem namesX_more (L : List TX) (n : ByteArray) : (tgsX (L ++ [newX n])).map (·.n) = (tgsX L).map (·.n) ++ [n.data.toList] := by rw [tgsX_snoc]; simp [newX, TX.tg]
theorem cell_threeB (w : World) (x y z : Value) (t : TypeId) : ∀ j u, [x, y, z][j]? = some u → (w.alloc (.cells #[x, y, z] t)).cell? ((⟨w.heap.size, 0, none⟩ : Addr).add j) = some u := by
  intro j u hj
  match j, hj with
  | 0, hj => simp at hj; subst hj; simp [Addr.add]
  | 1, hj => simp at hj; subst hj; simp [Addr.add]
  | 2, hj => simp at hj; subst hj; simp [Addr.add]
  | (j + 3), hj => simp at hj

theorem RdM.drew {base R m : Nat} {dir n : ByteArray} {M : List TX} {K : List Bs} {W : World} {p : Option Addr} {g c : Nat} (h : RdM base R m dir M n K p g c W) : RdM base R m dir M n K p g c W.drew :=
  ⟨h.r, h.row, fun x hx => (h.own x hx).keep (Nat.le_refl _) fun _ _ _ _ ho => ho, h.names.keep fun _ ho => ho⟩
set_option maxRecDepth 100000 in
set_option maxHeartbeats 8000000 in
theorem btarget_any (base R m : Nat) (dir : ByteArray) (L : List TX) (K : List Bs) (t : ByteArray) (W : World) (h : RdO base R m dir L K W) (hK : K = (tgsX L).map (·.n)) (hl : L.length ≤ 100000) (hR : R < base) (hm : m < base) (hRm : R ≠ m) (hbase : base ≤ W.heap.size) (hd : dir.size ≤ 100000) (ht : t.size ≤ 100000) :
    Calls Tryd.prog 61 #[.pointer (some ⟨R, 0, none⟩), .string t] W (ActPost base R m dir (targetT dir.data.toList (tgsX L) t.data.toList) W) := by
  have HNA := Lib.hid (bnamed_any t W (by unfold maxLen; omega))
  have HH := Lib.hid h
  have HK := Lib.hid hK
  cases hnt : namedT t.data.toList with
  | false =>
    have HT := Lib.hid (targetT_bad dir.data.toList (tgsX L) t.data.toList hnt)
    rw [hnt] at HNA
    clear h hK hnt
    go_enter Tryd.func61, Tryd.ntmps61
    go_wp2_with fail
    refine HNA.out.mono ?_
    rintro e w1 ⟨rfl, rfl⟩
    go_wp2_with fail
    go_ret
    exact ⟨11, L, K, rfl, HH.out, TurnR.of_below (Below.refl _ _), .inl ⟨by decide, HT.out⟩⟩
  | true =>
    rw [hnt] at HNA
    have HNT := Lib.hid hnt; clear hnt
    obtain ⟨A, c, h1, h2⟩ := h.box
    have c1 : W.cell? ⟨R, 1, none⟩ = some (.string dir) := cell_of_row W R 1 _ _ _ h1
    have c3 : W.cell? ⟨R, 3, none⟩ = some (.map (some m)) := cell_of_row W R 3 _ _ _ h1
    obtain ⟨lb, hlb⟩ : ∃ lb, dir ++ ⟨#[58]⟩ ++ t = lb := ⟨_, rfl⟩
    have hlbl : lb.data.toList = dir.data.toList ++ 58 :: t.data.toList := by rw [← hlb, label_bytes, mkB_data]
    have hlbs : lb.size ≤ 200001 := by
      have := size_listT lb
      rw [hlbl, List.length_append, List.length_cons, size_listT, size_listT] at this
      omega
    obtain ⟨kk, D, hown, hkn, hhas⟩ := h.names
    have hkey : keyOf Tryd.prog 9 (.string lb) = some (.string lb.data.toList) := keyOf_string_mk (P := Tryd.prog) Tryd.underlying9 (by unfold maxLen; omega)
    have HLB := Lib.hid hlb
    have HLL := Lib.hid hlbl
    have HKEY := Lib.hid hkey
    have HOWN := Lib.hid hown
    have HHAS := Lib.hid hhas
    have H1 := Lib.hid h1
    have H2 := Lib.hid h2
    have hkn2 : kk ≤ K.length := hkn
    have hkl : K.length = L.length := by rw [hK]; simp [tgsX]
    clear h h1 h2 hlb hlbl hown hhas hkey hK hkn
    cases hmem : Maps.has D (.string lb.data.toList) with
    | true =>
      have HH1 := Lib.hid hmem
      clear hmem
      go_enter Tryd.func61, Tryd.ntmps61
      go_wp2_with fail
      refine HNA.out.mono ?_
      rintro e w1 ⟨rfl, rfl⟩
      go_upto_region 4 with fail
      rw [HLB.out]
      go_wp2_with (at_lookup; refine wpList_lookup_own_unit _ rfl _ _ 67 rfl 9 93 skeyedB Tryd.underlying67 (zero_unitB _) m kk D rfl HOWN.out _ _ rfl HKEY.out ?_; rw [HH1.out])
      go_ret
      have hb1 := (Below.refl w1.heap.size w1).alloc (Nat.le_refl _) (.cells #[] 93)
      refine ⟨12, L, K, rfl, HH.out.below hb1, TurnR.of_below hb1, .inl ⟨by decide, targetT_twice _ _ _ HNT.out ?_⟩⟩
      rw [← HK.out, ← HLL.out]
      exact (HHAS.out _).1 HH1.out
    | false =>
      have HH1 := Lib.hid hmem
      clear hmem
      obtain ⟨ti, hi, hz0, hz1, hz2⟩ := info_parts target_info
      have HI := Lib.hid hi
      have HZ0 := Lib.hid hz0
      clear hi hz0
      go_enter Tryd.func61, Tryd.ntmps61
      go_wp2_with fail
      refine HNA.out.mono ?_
      rintro e w1 ⟨rfl, rfl⟩
      go_upto_region 4 with fail
      rw [HLB.out]
      go_upto_region 7 with (at_lookup; refine wpList_lookup_own_unit _ rfl _ _ 67 rfl 9 93 skeyedB Tryd.underlying67 (zero_unitB _) m kk D rfl HOWN.out _ _ rfl HKEY.out ?_; rw [HH1.out])
      obtain ⟨W1, hW1⟩ : ∃ W1, w1.alloc (.cells #[] 93) = W1 := ⟨_, rfl⟩
      have hb1 : Below w1.heap.size w1 W1 := by rw [← hW1]; exact (Below.refl w1.heap.size w1).alloc (Nat.le_refl _) _
      rw [hW1]
      clear hW1 c1 c3
      have hs1 := hb1.size
      have hh1 := HH.out.below hb1
      have hown1 : W1.ownsMap Tryd.prog 9 unitElem m kk D := by
        obtain ⟨es, clock, he, F, hs, hD⟩ := HOWN.out
        exact ⟨es, clock, row_belowB he hb1, F, hs, hD⟩
      have c3 : W1.cell? ⟨R, 3, none⟩ = some (.map (some m)) := cell_of_row W1 R 3 _ _ _ (row_belowB H1.out hb1)
      have HB1 := Lib.hid hb1
      have HHW := Lib.hid hh1
      have HOWN1 := Lib.hid hown1
      clear hb1 hh1 hown1
      go_upto_region 8 with (at_mapUpdate; go_loud (refine wpList_mapUpdate_own _ rfl _ _ _ 67 rfl 9 93 skeyedB Tryd.underlying67 unitElem m kk D rfl HOWN1.out (by unfold maxLen; omega) _ _ _ rfl rfl HKEY.out (.agg []) [] unitElem_mk ?_; intro w5 hown5 hgr5; have HOWN5 := Lib.hid hown5; have HGR5 := Lib.hid hgr5; clear hown5 hgr5))
      obtain ⟨hO5, hT5⟩ := HHW.out.named hRm hm HGR5.out (NamesAt.put HOWN5.out HOWN1.out.isMap hkn2 HHAS.out)
      obtain ⟨A5, c5, h15, h25⟩ := hO5.box
      have c2 : w5.cell? ⟨R, 2, none⟩ = some (.slice A5 L.length c5) := cell_of_row w5 R 2 _ _ _ h15
      have hs5 : W1.heap.size ≤ w5.heap.size := hT5.size
      have hA5 : ∀ j, blkA A5 = some j → base ≤ j := fun j hj => (row_ge h25 ((own_blk _ _ _).trans hj)).1
      have HO5 := Lib.hid hO5
      have HT5 := Lib.hid hT5
      have H15 := Lib.hid h15
      have H25 := Lib.hid h25
      have HA5 := Lib.hid hA5
      clear hO5 hT5 h15 h25 hA5 c3
      go_upto_region 9 with (at_builtin; go_loud (refine wpList_append_lies _ rfl _ _ 26 rfl base 37 ti (.agg #[.string ⟨#[]⟩, .slice none 0 0, .slice none 0 0]) 3 64 Tryd.underlying26 HI.out HZ0.out hz1 hz2 rfl (by decide) (.slice A5 L.length c5) L.length (gcells L) rfl (H25.out.alloc _) ⟨w5.heap.size, 0, none⟩ 1 1 (newX lb).cs rfl rfl (cell_threeB _ _ _ _ _) (by intro u hu; simp only [newX, TX.cs, List.mem_cons, List.mem_nil_iff, or_false] at hu; rcases hu with rfl | rfl | rfl <;> rfl) (by decide) (by unfold maxLen; omega) (by omega) (by rw [World.size_alloc]; omega) _ rfl ?_; intro g8 c8 w8 hown8 hgr8 _ _; rw [own_blk] at hgr8; obtain ⟨hM8, hT8⟩ := HO5.out.added (n := lb) hR hRm hm H15.out H25.out hgr8 (by rw [gcells_append]; exact hown8); have hR8 := (hgr8.block R (by rw [World.size_alloc]; have := (Array.getElem?_eq_some_iff.1 H15.out).1; omega) (fun e => by have := HA5.out R e.symm; omega)).trans (row_belowB H15.out ((Below.refl _ _).alloc (Nat.le_refl _) _)); have d2 : w8.cell? ⟨R, 2, none⟩ = some (.slice A5 L.length c5) := cell_of_row w8 R 2 _ _ _ hR8; have e2 : w8.frozen? ⟨R, 2, none⟩ = false := frozen_of_row w8 R 2 _ _ hR8; have HM8 := Lib.hid hM8; have HT8 := Lib.hid hT8; clear hM8 hT8 hown8 hgr8 hR8))
      obtain ⟨W9, hW9⟩ : ∃ W9, w8.setCell ⟨R, 2, none⟩ (.slice (some ⟨g8, 0, none⟩) (L.length + 1) c8) = W9 := ⟨_, rfl⟩
      rw [hW9] at HM8 HT8
      have HW9 := Lib.hid hW9; clear hW9
      rw [HW9.out]
      clear d2 e2 c2
      have k2 : W9.cell? ⟨R, 2, none⟩ = some (.slice (some ⟨g8, 0, none⟩) (L.length + 1) c8) := cell_of_row W9 R 2 _ _ _ HM8.out.r
      have k0 : ∃ p, W9.cell? ⟨R, 0, none⟩ = some (.pointer p) := ⟨_, cell_of_row W9 R 0 _ _ _ HM8.out.r⟩
      obtain ⟨p0, k0⟩ := k0
      have f0 : W9.frozen? ⟨R, 0, none⟩ = false := frozen_of_row W9 R 0 _ _ HM8.out.r
      obtain ⟨n, hn⟩ : ∃ n, L.length = n := ⟨_, rfl⟩
      have HN := Lib.hid hn
      rw [hn] at k2 hl
      have wn : IntKind.i64.wrap ((n : Int) + 1 - 1) = (n : Int) := by rw [show ((n : Int) + 1 - 1) = (n : Int) from by omega]; exact IntWalk.i64_in _ (by omega)
      clear hn hkl
      go_region
      go_wp2_with fail
      go_ret
      have hP := (HM8.out.drew).pointed hR hRm
      rw [HN.out] at hP
      refine ⟨0, L ++ [newX lb], K ++ [lb.data.toList], rfl, hP.1, (TurnR.of_below HB1.out).trans (HT5.out.trans (HT8.out.trans ((TurnR.of_below (Below.refl _ _).drew).trans hP.2))), .inr ⟨rfl, targetT_new _ _ _ _ HLL.out HNT.out (fun e => ?_), by rw [namesX_more, HK.out]⟩⟩
      have := (HHAS.out lb.data.toList).2 (by rw [HK.out, HLL.out]; exact e)
      rw [HH1.out] at this; cases this
end Go.Proofs.YtckpojkbcbogbaaDoor
