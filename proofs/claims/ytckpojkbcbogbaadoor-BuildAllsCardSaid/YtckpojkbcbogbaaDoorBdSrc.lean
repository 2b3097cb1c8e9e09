/-
  The contract of the reader's act src. (gen_bdact.py)
-/
import Derived.Test.YtckpojkbcbogbaaDoorBdRdr
import Derived.Test.YtckpojkbcbogbaaDoorSmall
import Derived.Test.YtckpojkbcbogbaaDoorConsists
import Derived.Test.YtckpojkbcbogbaaDoorLast
import Derived.Test.YtckpojkbcbogbaaDoorBase
import Derived.BigQuiet
namespace Go.Proofs.YtckpojkbcbogbaaDoor
open Go Go.RowKit Go.Shelf Go.Proofs
attribute [local go_sem] Oper.semAt_some

theorem lastM_snocB (f : Tg → Tg) : ∀ (l : List Tg) (x : Tg), lastM f (l ++ [x]) = l ++ [f x]
  | [], _ => rfl
  | [_], _ => rfl
  | a :: b :: r, x => by
    show a :: lastM f ((b :: r) ++ [x]) = _
    rw [lastM_snocB f (b :: r) x]; rfl
theorem row_belowB {W W' : World} {b : Nat} {o : Obj} (h : W.heap[b]? = some o) (hb : Below W.heap.size W W') : W'.heap[b]? = some o := (hb.block _ (Array.getElem?_eq_some_iff.1 h).1).trans h
theorem one_cellB (w : World) (x : Value) (t : TypeId) : ∀ j u, [x][j]? = some u → (w.alloc (.cells #[x] t)).cell? ((⟨w.heap.size, 0, none⟩ : Addr).add j) = some u := by
  intro j u hj
  match j, hj with
  | 0, hj => simp at hj; subst hj; simp [Addr.add]
  | (j + 1), hj => simp at hj
/-- What an act answers: an error, or what is read now. -/
def ActPost (base R m : Nat) (dir : ByteArray) (r : Except Int (List Tg)) (W : World) (e : Ending) (W' : World) : Prop := ∃ n L K, e = .returned (.int .i64 n) ∧ RdO base R m dir L K W' ∧ TurnR base R m W W' ∧ ((n ≠ 0 ∧ r = .error n) ∨ (n = 0 ∧ r = .ok (tgsX L) ∧ K = (tgsX L).map (·.n)))
theorem tgsX_snoc (M : List TX) (x : TX) : tgsX (M ++ [x]) = tgsX M ++ [x.tg] := tgsX_append M [x]
theorem srcT_bad (dir : Bs) (l : List Tg) (t : Bs) (h : (!l.isEmpty && rightB (join2 dir t)) = false) : srcT dir l t = .error 11 := by unfold srcT; rw [h]; rfl
theorem srcT_good (dir : Bs) (M : List TX) (x : TX) (t : Bs) (A : Option Addr) (c : Nat) (h : rightB (join2 dir t) = true) : srcT dir (tgsX (M ++ [x])) t = .ok (tgsX (M ++ [{ x with A := A, c := c, s := x.s ++ [join2 dir t] }])) := by
  unfold srcT
  rw [tgsX_snoc, tgsX_snoc, lastM_snocB, h]
  simp [TX.tg]
theorem namesX_src (M : List TX) (x y : TX) (h : y.n = x.n) : (tgsX (M ++ [y])).map (·.n) = (tgsX (M ++ [x])).map (·.n) := by rw [tgsX_snoc, tgsX_snoc]; simp [TX.tg, h]

set_option maxRecDepth 100000 in
set_option maxHeartbeats 8000000 in
theorem bsrc_any (base R m : Nat) (dir : ByteArray) (L : List TX) (K : List Bs) (t : ByteArray) (W : World) (h : RdO base R m dir L K W) (hK : K = (tgsX L).map (·.n)) (hl : ∀ x ∈ L, x.s.length ≤ 100000) (hR : R < base) (hm : m < base) (hbase : base ≤ W.heap.size) (hd : dir.size ≤ 100000) (ht : t.size ≤ 100000) (hM : MaxOk W) :
    Calls Tryd.prog 62 #[.pointer (some ⟨R, 0, none⟩), .string t] W (ActPost base R m dir (srcT dir.data.toList (tgsX L) t.data.toList) W) := by
  have HJ := Lib.hid (join_any dir t W (by omega) (by omega))
  have hps : (mkB (join2 dir.data.toList t.data.toList)).size ≤ 200001 := by
    rw [mkB_size]
    have := join2_len dir.data.toList t.data.toList
    have e1 := size_listT dir
    have e2 := size_listT t
    omega
  have hri := right_any (mkB (join2 dir.data.toList t.data.toList)) W (by unfold maxLen; omega) hM
  rw [mkB_data] at hri
  have HRI := Lib.hid hri; clear hri
  obtain ⟨q, hq⟩ : ∃ q, join2 dir.data.toList t.data.toList = q := ⟨_, rfl⟩
  rcases List.eq_nil_or_concat L with rfl | ⟨M, x, rfl⟩
  · obtain ⟨A, c, h1, _⟩ := h.box
    have c0 : W.cell? ⟨R, 0, none⟩ = some (.pointer none) := by
      have := cell_of_row W R 0 _ _ _ h1
      simpa [endA] using this
    have c1 : W.cell? ⟨R, 1, none⟩ = some (.string dir) := cell_of_row W R 1 _ _ _ h1
    have HH := Lib.hid h
    have HN := Lib.hid (srcT_bad dir.data.toList (tgsX []) t.data.toList rfl)
    clear h h1 hl hK hps hq
    go_enter Tryd.func62, Tryd.ntmps62
    go_wp2_with fail
    refine HJ.out.mono ?_
    rintro e w1 ⟨rfl, rfl⟩
    go_wp2_with fail
    go_ret
    exact ⟨11, [], K, rfl, HH.out, TurnR.of_below (Below.refl _ _), .inl ⟨by decide, HN.out⟩⟩
  · rw [List.concat_eq_append] at *
    obtain ⟨A, c, h1, h2⟩ := h.box
    rw [show (M ++ [x]).length = M.length + 1 from by simp] at h1 h2
    obtain ⟨g, c', hv, hgb, hgl⟩ := h2.form (by omega)
    simp only [Value.slice.injEq, true_and] at hv
    obtain ⟨rfl, rfl⟩ := hv
    rw [show endA (some ⟨g, 0, none⟩) (M.length + 1) = some ⟨g, M.length * 3, none⟩ from by simp [endA]] at h1
    have c0 : W.cell? ⟨R, 0, none⟩ = some (.pointer (some ⟨g, M.length * 3, none⟩)) := cell_of_row W R 0 _ _ _ h1
    have c1 : W.cell? ⟨R, 1, none⟩ = some (.string dir) := cell_of_row W R 1 _ _ _ h1
    have HH := Lib.hid h
    have H1 := Lib.hid h1
    have H2 := Lib.hid h2
    have HK := Lib.hid hK
    have hxl := hl x (by simp)
    rw [hq] at HJ HRI hps
    have HQ := Lib.hid hq
    clear h h1 h2 hK hl hq
    go_enter Tryd.func62, Tryd.ntmps62
    go_wp2_with fail
    refine HJ.out.mono ?_
    rintro e w1 ⟨rfl, rfl⟩
    go_wp2_with fail
    refine HRI.out.mono ?_
    rintro e w2 ⟨rfl, hb⟩
    cases hrt : rightB q with
    | false =>
      have HN := Lib.hid (srcT_bad dir.data.toList (tgsX (M ++ [x])) t.data.toList (by rw [HQ.out, hrt, Bool.and_false]))
      have HB := Lib.hid hb; clear hb
      go_wp2_with fail
      go_ret
      exact ⟨11, M ++ [x], K, rfl, HH.out.below HB.out, TurnR.of_below HB.out, .inl ⟨by decide, HN.out⟩⟩
    | true =>
      have HB := Lib.hid hb
      have hbd : Below w1.heap.size w1 w2.drew := hb.drew
      have hs2 : w1.heap.size ≤ w2.heap.size := hb.size
      have hh2 : RdO base R m dir (M ++ [x]) K w2.drew := HH.out.below hbd
      have h1d : w2.drew.heap[R]? = some (.cells #[.pointer (some ⟨g, M.length * 3, none⟩), .string dir, .slice (some ⟨g, 0, none⟩) (M.length + 1) c, .map (some m)] 70 (0, 0)) := row_belowB H1.out hbd
      have h2d : w2.drew.ownsRow base 37 3 (.slice (some ⟨g, 0, none⟩) (M.length + 1) c) (M.length + 1) (gcells (M ++ [x])) := ownsRow_keepA H2.out fun j o _ _ ho => row_belowB ho hbd
      obtain ⟨hL, _⟩ := hh2.last M x rfl
      obtain ⟨_, cur, hgc⟩ := row_ge h2d (g := g) rfl
      have hxg := no_textB hL.s hgc
      have hxb : ∀ j, blkA x.A = some j → base ≤ j := fun j hj => (row_ge hL.s ((own_blk _ _ _).trans hj)).1
      have hcu : cur[M.length * 3 + 1]? = some (.slice x.A x.s.length x.c) := by
        have a := (gcells_at (M ++ [x]) M.length x (by simp)).2.1
        have b := World.ownsRow.cells h2d (g := g) rfl _ _ a
        rw [Go.WideShapes.add_plain, Nat.zero_add] at b
        rw [cell_of_row w2.drew g _ _ _ _ hgc] at b
        exact b
      have k1 : w2.cell? ⟨R, 0, none⟩ = some (.pointer (some ⟨g, M.length * 3, none⟩)) := cell_of_row w2 R 0 _ _ _ h1d
      have k2 : w2.cell? ⟨g, M.length * 3 + 1, none⟩ = some (.slice x.A x.s.length x.c) := (cell_of_row w2 g _ _ _ _ hgc).trans hcu
      have hHeld := (show _ ∧ _ from ⟨k1, k2⟩)
      obtain ⟨si, hi, hz0, hz1, hz2⟩ := info_parts string_info
      have HH2 := Lib.hid hh2
      have H1D := Lib.hid h1d
      have H2D := Lib.hid h2d
      have HL := Lib.hid hL
      have HGC := Lib.hid hgc
      have HCU := Lib.hid hcu
      have HXG := Lib.hid hxg
      have HXB := Lib.hid hxb
      have HRT := Lib.hid hrt
      have HI := Lib.hid hi
      have HZ0 := Lib.hid hz0
      have HBD := Lib.hid hbd
      clear hh2 h1d h2d hL hgc hcu hxg hxb hb hrt hi hz0 hbd
      go_wp2_with fail
      refine wp_region_last (fun w' => w'.cell? ⟨R, 0, none⟩ = some (.pointer (some ⟨g, M.length * 3, none⟩)) ∧ w'.cell? ⟨g, M.length * 3 + 1, none⟩ = some (.slice x.A x.s.length x.c)) 16 (by kernel_rfl) ?_
      refine wpAnyL_take (i := 0) (v := ?vs0) rfl (by kernel_rfl) (by kernel_rfl) (by kernel_rfl) (by kernel_rfl) (by kernel_rfl) (fun _ _ _ h => h) hHeld (Or.inl ⟨by rfl, ?ys0⟩) ?rs0
      case ys0 =>
        intro w hSw
        (try dsimp only at hSw)
        go_simp
        first | done | with_reducible rfl
      try simp only [Act.put, List.getElem_toArray, List.getElem_cons_zero, List.setIfInBounds_toArray, List.set_cons_zero, List.set_cons_succ]
      refine wpAnyL_take (i := 1) (v := ?vs1) rfl (by kernel_rfl) (by kernel_rfl) (by kernel_rfl) (by kernel_rfl) (by kernel_rfl) (fun _ _ _ h => h) hHeld (Or.inl ⟨by rfl, ?ys1⟩) ?rs1
      case ys1 =>
        intro w hSw
        (try dsimp only at hSw)
        go_simp
        first | done | with_reducible rfl
      try simp only [Act.put, List.getElem_toArray, List.getElem_cons_zero, List.getElem_cons_succ, List.setIfInBounds_toArray, List.set_cons_zero, List.set_cons_succ]
      refine wpAnyL_take (i := 2) (v := ?vs2) rfl (by kernel_rfl) (by kernel_rfl) (by kernel_rfl) (by kernel_rfl) (by kernel_rfl) (fun _ _ _ h => h) hHeld (Or.inl ⟨by rfl, ?ys2⟩) ?rs2
      case ys2 =>
        intro w hSw
        (try dsimp only at hSw)
        go_simp
        first | done | with_reducible rfl
      try simp only [Act.put, List.getElem_toArray, List.getElem_cons_zero, List.getElem_cons_succ, List.setIfInBounds_toArray, List.set_cons_zero, List.set_cons_succ]
      refine wpAnyL_take (i := 3) (v := ?vs3) rfl (by kernel_rfl) (by kernel_rfl) (by kernel_rfl) (by kernel_rfl) (by kernel_rfl) (fun _ _ _ h => h) hHeld (Or.inl ⟨by rfl, ?ys3⟩) ?rs3
      case ys3 =>
        intro w hSw
        (try dsimp only at hSw)
        go_simp
        first | done | with_reducible rfl
      try simp only [Act.put, List.getElem_toArray, List.getElem_cons_zero, List.getElem_cons_succ, List.setIfInBounds_toArray, List.set_cons_zero, List.set_cons_succ]
      refine wpAnyL_take (i := 4) (v := ?vs4) rfl (by kernel_rfl) (by kernel_rfl) (by kernel_rfl) (by kernel_rfl) (by kernel_rfl) (fun _ _ _ h => h) hHeld (Or.inl ⟨by rfl, ?ys4⟩) ?rs4
      case ys4 =>
        intro w hSw
        (try dsimp only at hSw)
        go_simp
        first | done | with_reducible rfl
      try simp only [Act.put, List.getElem_toArray, List.getElem_cons_zero, List.getElem_cons_succ, List.setIfInBounds_toArray, List.set_cons_zero, List.set_cons_succ]
      refine wpAnyL_take (i := 5) (v := ?vs5) rfl (by kernel_rfl) (by kernel_rfl) (by kernel_rfl) (by kernel_rfl) (by kernel_rfl) (fun _ _ _ h => h) hHeld (Or.inl ⟨by rfl, ?ys5⟩) ?rs5
      case ys5 =>
        intro w hSw
        (try dsimp only at hSw)
        go_simp
        first | done | with_reducible rfl
      try simp only [Act.put, List.getElem_toArray, List.getElem_cons_zero, List.getElem_cons_succ, List.setIfInBounds_toArray, List.set_cons_zero, List.set_cons_succ]
      refine wpAnyL_take (i := 6) (v := ?vs6) rfl (by kernel_rfl) (by kernel_rfl) (by kernel_rfl) (by kernel_rfl) (by kernel_rfl) (fun _ _ _ h => h) hHeld (Or.inl ⟨by rfl, ?ys6⟩) ?rs6
      case ys6 =>
        intro w hSw
        (try dsimp only at hSw)
        go_simp
        first | done | with_reducible rfl
      try simp only [Act.put, List.getElem_toArray, List.getElem_cons_zero, List.getElem_cons_succ, List.setIfInBounds_toArray, List.set_cons_zero, List.set_cons_succ]
      refine wpAnyL_take (i := 7) (v := ?vs7) rfl (by kernel_rfl) (by kernel_rfl) (by kernel_rfl) (by kernel_rfl) (by kernel_rfl) (fun _ _ _ h => h) hHeld (Or.inl ⟨by rfl, ?ys7⟩) ?rs7
      case ys7 =>
        intro w hSw
        (try dsimp only at hSw)
        go_simp
        first | done | with_reducible rfl
      try simp only [Act.put, List.getElem_toArray, List.getElem_cons_zero, List.getElem_cons_succ, List.setIfInBounds_toArray, List.set_cons_zero, List.set_cons_succ]
      refine wpAnyL_take (i := 8) (v := ?vs8) rfl (by kernel_rfl) (by kernel_rfl) (by kernel_rfl) (by kernel_rfl) (by kernel_rfl) (fun _ _ _ h => h) hHeld (Or.inl ⟨by rfl, ?ys8⟩) ?rs8
      case ys8 =>
        intro w hSw
        (try dsimp only at hSw)
        go_simp
        first | done | with_reducible rfl
      try simp only [Act.put, List.getElem_toArray, List.getElem_cons_zero, List.getElem_cons_succ, List.setIfInBounds_toArray, List.set_cons_zero, List.set_cons_succ]
      refine wpAnyL_take (i := 9) (v := ?vs9) rfl (by kernel_rfl) (by kernel_rfl) (by kernel_rfl) (by kernel_rfl) (by kernel_rfl) (fun _ _ _ h => h) hHeld (Or.inl ⟨by rfl, ?ys9⟩) ?rs9
      case ys9 =>
        intro w hSw
        (try dsimp only at hSw)
        go_simp
        first | done | with_reducible rfl
      try simp only [Act.put, List.getElem_toArray, List.getElem_cons_zero, List.getElem_cons_succ, List.setIfInBounds_toArray, List.set_cons_zero, List.set_cons_succ]
      refine wpAnyL_take (i := 10) (v := ?vs10) rfl (by kernel_rfl) (by kernel_rfl) (by kernel_rfl) (by kernel_rfl) (by kernel_rfl) (fun _ _ _ h => h) hHeld (Or.inl ⟨by rfl, ?ys10⟩) ?rs10
      case ys10 =>
        intro w hSw
        (try dsimp only at hSw)
        go_simp
        first | done | with_reducible rfl
      try simp only [Act.put, List.getElem_toArray, List.getElem_cons_zero, List.getElem_cons_succ, List.setIfInBounds_toArray, List.set_cons_zero, List.set_cons_succ]
      refine wpAnyL_take (i := 11) (v := ?vs11) rfl (by kernel_rfl) (by kernel_rfl) (by kernel_rfl) (by kernel_rfl) (by kernel_rfl) (fun _ _ _ h => h) hHeld (Or.inl ⟨by rfl, ?ys11⟩) ?rs11
      case ys11 =>
        intro w hSw
        (try dsimp only at hSw)
        go_simp
        first | done | with_reducible rfl
      try simp only [Act.put, List.getElem_toArray, List.getElem_cons_zero, List.getElem_cons_succ, List.setIfInBounds_toArray, List.set_cons_zero, List.set_cons_succ]
      refine wpAnyL_one (i := 12) (by kernel_rfl) rfl rfl (fun K hK => ?_)
      go_simp
      have hb8 : Below w2.drew.heap.size w2.drew (w2.drew.alloc (.cells #[.string (mkB q)] 9)) := (Below.refl _ _).alloc (Nat.le_refl _) _
      have p1 : (w2.drew.alloc (.cells #[.string (mkB q)] 9)).cell? ⟨R, 0, none⟩ = some (.pointer (some ⟨g, M.length * 3, none⟩)) := cell_of_row _ R 0 _ _ _ (row_belowB H1D.out hb8)
      have p2 : (w2.drew.alloc (.cells #[.string (mkB q)] 9)).cell? ⟨g, M.length * 3 + 1, none⟩ = some (.slice x.A x.s.length x.c) := (cell_of_row _ g _ _ _ _ (row_belowB HGC.out hb8)).trans HCU.out
      have hHeld := (show _ ∧ _ from ⟨p1, p2⟩)
      clear hb8 p1 p2
      refine hK.out _ _ (fun _ => hHeld) ?_
      clear hK K
      try simp only [Act.put, List.getElem_toArray, List.getElem_cons_zero, List.getElem_cons_succ, List.setIfInBounds_toArray, List.set_cons_zero, List.set_cons_succ]
      refine wpAnyL_one (i := 13) (by kernel_rfl) rfl rfl (fun K hK => ?_)
      refine wp_append_lies _ (.tmp 32) (.tmp 34) 34 rfl base 9 si (.string ⟨#[]⟩) 1 16 Tryd.underlying34 HI.out HZ0.out hz1 hz2 rfl (by decide) (.slice x.A x.s.length x.c) x.s.length (strVs x.s) rfl (HL.out.s.alloc _) ⟨w2.drew.heap.size, 0, none⟩ 1 1 [.string (mkB q)] rfl rfl (one_cellB _ _ _) (by intro u hu; simp only [List.mem_singleton] at hu; subst hu; rfl) (by decide) (by unfold maxLen; omega) (by omega) (by show base ≤ (w2.alloc (.cells #[.string (mkB q)] 9)).heap.size; rw [World.size_alloc]; omega) _ rfl ?_
      intro g8 c8 w8 hown8 hgr8 hat8 _
      rw [own_blk] at hgr8 hat8
      rw [← strVs_oneB] at hown8
      obtain ⟨hO2, hT2⟩ := HH2.out.laySrc hR hm H1D.out H2D.out hgr8 hown8 (hat8.imp id (fun e => by rw [e]; show some (w2.alloc (.cells #[.string (mkB q)] 9)).heap.size = some (w2.heap.size + 1); rw [World.size_alloc]))
      have hR8 := (hgr8.block R (by have : R < w2.heap.size := (Array.getElem?_eq_some_iff.1 H1D.out).1; show R < (w2.alloc (.cells #[.string (mkB q)] 9)).heap.size; rw [World.size_alloc]; omega) (fun e => by have := HXB.out R e.symm; omega)).trans (row_belowB H1D.out ((Below.refl _ _).alloc (Nat.le_refl _) _))
      have hg8 := (hgr8.block g (by have : g < w2.heap.size := (Array.getElem?_eq_some_iff.1 HGC.out).1; show g < (w2.alloc (.cells #[.string (mkB q)] 9)).heap.size; rw [World.size_alloc]; omega) (fun e => HXG.out e.symm)).trans (row_belowB HGC.out ((Below.refl _ _).alloc (Nat.le_refl _) _))
      have d1 : w8.cell? ⟨R, 0, none⟩ = some (.pointer (some ⟨g, M.length * 3, none⟩)) := cell_of_row w8 R 0 _ _ _ hR8
      have d2 : w8.cell? ⟨g, M.length * 3 + 1, none⟩ = some (.slice x.A x.s.length x.c) := (cell_of_row w8 g _ _ _ _ hg8).trans HCU.out
      have e2 : w8.frozen? ⟨g, M.length * 3 + 1, none⟩ = false := frozen_of_row w8 g _ _ _ hg8
      have HO2 := Lib.hid hO2
      have HT2 := Lib.hid hT2
      have hHeld := (show _ ∧ _ from ⟨d1, d2⟩)
      clear hO2 hT2 hown8 hgr8 hat8 hR8 hg8
      refine hK.out _ _ (fun _ => hHeld) ?_
      clear hK K
      try simp only [Act.put, List.getElem_toArray, List.getElem_cons_zero, List.getElem_cons_succ, List.setIfInBounds_toArray, List.set_cons_zero, List.set_cons_succ]
      refine wpAnyL_one (i := 14) (by kernel_rfl) rfl rfl (fun K hK => ?_)
      go_simp
      refine hK.out _ _ (fun _ => hHeld) ?_
      clear hK K
      try simp only [Act.put, List.getElem_toArray, List.getElem_cons_zero, List.getElem_cons_succ, List.setIfInBounds_toArray, List.set_cons_zero, List.set_cons_succ]
      refine wpAnyL_take (i := 15) (v := ?vs15) rfl (by kernel_rfl) (by kernel_rfl) (by kernel_rfl) (by kernel_rfl) (by kernel_rfl) (fun _ _ _ h => h) hHeld (Or.inl ⟨by rfl, ?ys15⟩) ?rs15
      case ys15 =>
        intro w hSw
        (try dsimp only at hSw)
        go_simp
        first | done | with_reducible rfl
      try simp only [Act.put, List.getElem_toArray, List.getElem_cons_zero, List.getElem_cons_succ, List.setIfInBounds_toArray, List.set_cons_zero, List.set_cons_succ]
      refine wpAnyL_one (i := 16) (by kernel_rfl) rfl rfl (fun K hK => ?_)
      go_simp
      refine hK.out _ _ (fun h => absurd rfl h) ?_
      clear hK K
      try simp only [Act.put, List.getElem_toArray, List.getElem_cons_zero, List.getElem_cons_succ, List.setIfInBounds_toArray, List.set_cons_zero, List.set_cons_succ]
      refine wpAnyL_done (by kernel_rfl) ?_ _
      go_wp2_with fail
      go_ret
      refine ⟨0, _, K, rfl, HO2.out, (TurnR.of_below HBD.out).trans HT2.out, .inr ⟨rfl, ?_, ?_⟩⟩
      · rw [← HQ.out]; exact srcT_good _ _ _ _ _ _ (by rw [HQ.out]; exact HRT.out)
      · rw [HK.out]; refine Eq.symm (namesX_src M x _ ?_); rfl
end Go.Proofs.YtckpojkbcbogbaaDoor
