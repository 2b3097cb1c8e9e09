/-
  The law OwnersLines: two texts, a line feed between, tell what both tell.
-/
import Derived.Test.YtioiieammmdilaaGreatDoorOwKnown
namespace Go.Proofs.YtioiieammmdilaaGreatDoor
open Go Go.RowKit Go.Shelf Go.Proofs
attribute [local go_sem] Oper.semAt_some

/-! Plain. -/
theorem splitO_hit (c b : UInt8) (r : Bs) (h : (b == c) = true) : splitL c (b :: r) = [] :: splitL c r := by
  simp only [splitL, h, if_true]
theorem splitO_miss (c b : UInt8) (r p : Bs) (ps : List Bs) (h : (b == c) = false) (e : splitL c r = p :: ps) :
    splitL c (b :: r) = (b :: p) :: ps := by
  simp only [splitL, h, Bool.false_eq_true, if_false, e]
theorem splitO_append (c : UInt8) : ∀ (a b : Bs), splitL c (a ++ c :: b) = splitL c a ++ splitL c b
  | [], b => by
    rw [List.nil_append, splitO_hit c c b (by simp)]; rfl
  | x :: r, b => by
    have ih := splitO_append c r b
    rw [List.cons_append]
    by_cases hx : (x == c) = true
    · rw [splitO_hit c x _ hx, splitO_hit c x _ hx, ih]; rfl
    · have hx' : (x == c) = false := by simpa using hx
      cases e : splitL c r with
      | nil => exact absurd e (splitL_ne c r)
      | cons p ps =>
        rw [splitO_miss c x r p ps hx' e, splitO_miss c x (r ++ c :: b) p (ps ++ splitL c b) hx' (by rw [ih, e]; rfl)]
        rfl
def mergeO (o q : Ow) : Ow := (o.1 || q.1, o.2 ++ q.2)
theorem tellL_merge (o q : Ow) (ws : List Bs) : tellL (mergeO o q) ws = (tellL q ws).map (mergeO o) := by
  unfold tellL
  generalize kindL ws = k
  match k with
  | 0 => rfl
  | 1 => simp [tellK, mergeO]
  | 2 => simp [tellK, mergeO]
  | 3 => simp [tellK, mergeO]
  | k + 4 => rfl
theorem parseL_from (ls : List Bs) : ∀ (o : Ow) (r : Option Ow), ls.foldl (fun o l => o.bind (tellL · (wordsL l))) (r.map (mergeO o)) = (ls.foldl (fun o l => o.bind (tellL · (wordsL l))) r).map (mergeO o) := by
  induction ls with
  | nil => intro o r; rfl
  | cons l ls ih =>
    intro o r
    rw [List.foldl_cons, List.foldl_cons, ← ih]
    congr 1
    cases r with
    | none => rfl
    | some q => exact tellL_merge o q _
theorem mergeO_empty (o : Ow) : mergeO o emptyO = o := by obtain ⟨a, b⟩ := o; simp [mergeO, emptyO]
theorem parseL_append (a b : List Bs) : parseL (a ++ b) = (parseL a).bind fun o => (parseL b).map (mergeO o) := by
  unfold parseL
  rw [List.foldl_append]
  cases h : a.foldl (fun o l => o.bind (tellL · (wordsL l))) (some emptyO) with
  | none =>
    clear h
    induction b with
    | nil => rfl
    | cons x r ih => rw [List.foldl_cons]; exact ih
  | some o =>
    have := parseL_from b o (some emptyO)
    rw [Option.map_some, mergeO_empty] at this
    rw [this]; rfl
/-- What the law says of its three readings. -/
theorem parse_lines (s t : Bs) (h : s.length + t.length ≤ 1500) :
    ((parseV s).1 = 0 ∨ (parseV s).1 = 11) ∧ ((parseV t).1 = 0 ∨ (parseV t).1 = 11) ∧
    (((parseV s).1 ≠ 0 ∨ (parseV t).1 ≠ 0) → (parseV (s ++ 10 :: t)).1 = 11) ∧
    ((parseV s).1 = 0 → (parseV t).1 = 0 → parseV (s ++ 10 :: t) = (0, mergeO (parseV s).2 (parseV t).2)) := by
  have e1 : ¬ 16384 < s.length := by omega
  have e2 : ¬ 16384 < t.length := by omega
  have e3 : ¬ 16384 < (s ++ 10 :: t).length := by rw [List.length_append, List.length_cons]; omega
  unfold parseV
  rw [if_neg e1, if_neg e2, if_neg e3, splitO_append, parseL_append]
  cases parseL (splitL 10 s) with
  | none => cases parseL (splitL 10 t) <;> simp
  | some o => cases parseL (splitL 10 t) <;> simp

/-! Memory. -/
theorem run_append_none_c {P : Program} {w : World} (base : Nat) (t ty e : TypeId) (i : TypeInfo) (size c : Nat) (ht : P.underlying t = some (.slice e)) (hi : P.info? e = some i)
    (v : Value) (n : Nat) (xs : List Value) (hown : w.ownsRow base e size v n xs) :
    (Builtin.append_ #[t, t] ty #[v, .slice none 0 c]).run P w = .ok v w := by
  rcases hown.2 with ⟨rfl, rfl⟩ | ⟨g, cap, cur, rfl, _, _, hnc, _⟩
  · simp [Builtin.append_, run_underlying ht, sizeOf, typeInfo, hi, Builtin.lenOf, Builtin.firstCells]
  · simp [Builtin.append_, run_underlying ht, sizeOf, typeInfo, hi, Builtin.lenOf, Builtin.firstCells, hnc, storeCells]
theorem lcells_one (l : List LX) : ∀ u ∈ lcells l, u.oneCell' = true := by
  intro u hu
  unfold lcells at hu
  obtain ⟨x, _, hx⟩ := List.mem_flatMap.1 hu
  simp only [LX.cs, List.mem_cons, List.mem_nil_iff, or_false] at hx
  rcases hx with rfl | rfl <;> rfl
theorem wpList_append_lines {ops : Array Oper} {rest : List Oper} {o : Oper} {a : Act} {w : World} {Q : Exit → Act → World → Prop} (hgd : o.guard = none) (s x : Operand)
    (ho : o.op = .call { callee := .builtin .append, args := #[s, x], argTypes := #[22, 22] })
    (base : Nat) (v : Value) (l m : List LX) (A : Option Addr) (c : Nat) (hs : a.eval s = v) (hown : w.ownsRow base 62 2 v l.length (lcells l)) (hx : a.eval x = .slice A m.length c)
    (hm : LinesAt w A c m) (hl : l.length + m.length ≤ 100000) (hbase : base ≤ w.heap.size)
    (h : ∀ v' w', w'.ownsRow base 62 2 v' (l ++ m).length (lcells (l ++ m)) → w.grownBy w' v.ownBlock → wpList Tryz.prog ops Q rest (a.put o.dst v') w') : wpList Tryz.prog ops Q (o :: rest) a w := by
  obtain ⟨i0, hi, hz0, hz1, hz2⟩ := info_parts line_info
  cases A with
  | none =>
    have h0 : m.length = 0 := by
      by_cases e : m.length = 0
      · exact e
      · obtain ⟨g, o, hh, _⟩ := hm.row (by omega); cases hh
    obtain rfl : m = [] := List.eq_nil_of_length_eq_zero h0
    refine wpList_plain hgd fun K hK => ?_
    have hrun := run_append_none_c (P := Tryz.prog) (w := w) base 22 o.type 62 i0 2 c Tryz.underlying22 hi v l.length (lcells l) hown
    unfold Oper.wp
    rw [List.length_nil] at hx
    simp [execOp, ho, resolve, invoke, builtin, hs, hx, hrun, Result.andThen]
    refine hK _ _ (h v w ?_ (World.grownBy.refl w _))
    rw [List.append_nil]; exact hown
  | some ad =>
    refine wpList_append_own w hgd s x 22 ho base 62 i0 (.agg #[.string ⟨#[]⟩, .slice none 0 0]) 2 40 Tryz.underlying22 hi hz0 hz1 hz2 rfl (by decide) v l.length (lcells l) hs hown ad m.length c (lcells m) hx (lcells_length m) ?_ (lcells_one m) (by unfold maxLen; omega) (by omega) hbase fun v' w' h1 h2 _ => h v' w' ?_ h2
    · intro j u hj
      have hjl := (List.getElem?_eq_some_iff.1 hj).1
      rw [lcells_length] at hjl
      obtain ⟨g, o, hh, hr⟩ := hm.row (by omega)
      cases hh
      obtain ⟨y, hy⟩ : ∃ y, m[j / 2]? = some y := ⟨_, List.getElem?_eq_getElem (by omega)⟩
      obtain ⟨a1, a2⟩ := lcells_at m (j / 2) y hy
      obtain ⟨b1, b2⟩ := hr (j / 2) y hy
      rw [Go.WideShapes.add_plain]
      rcases Nat.mod_two_eq_zero_or_one j with e | e
      · rw [show j / 2 * 2 = j from by omega] at a1 b1
        rw [a1] at hj; cases hj; exact b1
      · rw [show j / 2 * 2 + 1 = j from by omega] at a2
        rw [show o + j / 2 * 2 + 1 = o + j from by omega] at b2
        rw [a2] at hj; cases hj; exact b2
    · rw [List.length_append, lcells_append]; exact h1
theorem lines_own {base : Nat} {w : World} {v : Value} {l : List LX} (h : w.ownsRow base 62 2 v l.length (lcells l)) (hb : OwnersAt w l) : ∃ A c, v = .slice A l.length c ∧ LinesAt w A c l := by
  rcases h.2 with ⟨rfl, h0⟩ | ⟨g, cap, cur, rfl, hbg, hgb, hc, hcm, _, _⟩
  · obtain rfl : l = [] := List.eq_nil_of_length_eq_zero h0
    exact ⟨none, 0, rfl, LinesAt.nil _ _ _ (Nat.zero_le _)⟩
  · refine ⟨_, _, rfl, hc, hcm, fun _ => ⟨g, 0, rfl, fun i x hx => ?_⟩, hb⟩
    obtain ⟨a1, a2⟩ := lcells_at l i x hx
    have b1 := World.ownsRow.cells h (g := g) rfl _ _ a1
    have b2 := World.ownsRow.cells h (g := g) rfl _ _ a2
    rw [Go.WideShapes.add_plain, Nat.zero_add] at b1 b2
    rw [Nat.zero_add]
    exact ⟨b1, b2⟩

/-! The law. -/
theorem cat_data (s t : ByteArray) : (s ++ ⟨#[10]⟩ ++ t).data.toList = s.data.toList ++ 10 :: t.data.toList := by simp
theorem cat_size (s t : ByteArray) : (s ++ ⟨#[10]⟩ ++ t).size = s.size + 1 + t.size := by rw [ByteArray.size_append, ByteArray.size_append]; rfl
theorem row_below {W W' : World} {b : Nat} {o : Obj} (h : W.heap[b]? = some o) (hb : Below W.heap.size W W') : W'.heap[b]? = some o := (hb.block _ (Array.getElem?_eq_some_iff.1 h).1).trans h
theorem row_grown {W W' : World} {b : Nat} {r : Option Nat} {o : Obj} (h : W.heap[b]? = some o) (hb : W.grownBy W' r) (hne : r ≠ some b) : W'.heap[b]? = some o := (hb.block _ (Array.getElem?_eq_some_iff.1 h).1 (fun e => hne e.symm)).trans h
theorem below_two {W3 w4 w5 : World} {v4 : Value} {n : Nat} {xs : List Value} (hg4 : W3.grownBy w4 (Value.slice none 0 0).ownBlock) (hg5 : w4.grownBy w5 v4.ownBlock) (hown : w4.ownsRow W3.heap.size 62 2 v4 n xs) : Below W3.heap.size W3 w5 :=
  (⟨hg4.os, hg4.tape, hg4.output, hg4.size, fun j hj => hg4.block j hj (by simp [Value.ownBlock])⟩ : Below W3.heap.size W3 w4).trans ⟨hg5.os, hg5.tape, hg5.output, hg5.size, fun j hj => hg5.block j (Nat.lt_of_lt_of_le hj hg4.size) (fun e => by have := (row_ge hown e.symm).1; omega)⟩
theorem below_new (w : World) (o : Obj) : Below w.heap.size w (w.alloc o) := (Below.refl _ w).alloc (Nat.le_refl _) _

set_option maxRecDepth 100000 in
set_option maxHeartbeats 4000000 in
theorem olines_any (s t : ByteArray) (w : World) (hs : s.size ≤ 1000000000000000) (ht : t.size ≤ 1000000000000000) (hm : MaxOk w) (hT : TabsOk w) :
    Calls Tryz.prog 7 #[.string s, .string t] w (BoolPost true w) := by
  have HK := Lib.hid (fun (W : World) (hb : Below w.heap.size w W) => oknown_any W (hm.below hb) (hT.below (Nat.le_refl _) hb))
  have wsum : IntKind.i64.wrap ((s.size : Int) + (t.size : Int)) = (s.size : Int) + (t.size : Int) := IntWalk.i64_in _ (by omega)
  by_cases hbig : 1500 < s.size + t.size
  · have g1 : (1500 : Int) < (s.size : Int) + (t.size : Int) := by omega
    have HK1 := Lib.hid (HK.out w (Below.refl _ _))
    clear HK
    go_enter Tryz.func7, Tryz.ntmps7
    go_wp2_with fail
    refine HK1.out.mono ?_
    rintro e w' ⟨rfl, hb⟩
    go_wp2_with fail
    go_ret
    exact ⟨rfl, hb⟩
  · have g1 : ¬ (1500 : Int) < (s.size : Int) + (t.size : Int) := by omega
    have HP := Lib.hid (fun (x : ByteArray) (W : World) (hb : Below w.heap.size w W) (hx : x.size ≤ 16384) => parse_any x W hx (hm.below hb) (hT.below (Nat.le_refl _) hb))
    have hpl := parse_lines s.data.toList t.data.toList (by rw [Array.length_toList, Array.length_toList]; show s.size + t.size ≤ 1500; omega)
    rw [← cat_data] at hpl
    have hsz := cat_size s t
    obtain ⟨x, hx⟩ : ∃ x, s ++ ⟨#[10]⟩ ++ t = x := ⟨_, rfl⟩
    have HX := Lib.hid hx
    rw [hx] at hpl hsz
    have HP1 := Lib.hid (HP.out s w (Below.refl _ _) (by omega))
    have HSX : Hid (t.size ≤ 16384 ∧ x.size ≤ 16384) := ⟨by omega, by omega⟩
    obtain ⟨q1, q2, q3, q4⟩ := hpl
    have ok1 := (parseV_ok s.data.toList).2
    have ok2 := (parseV_ok t.data.toList).2
    have HQ3 := Lib.hid q3
    have HQ4 := Lib.hid q4
    have HOK1 := Lib.hid ok1
    have HOK2 := Lib.hid ok2
    clear hm hT hbig hsz hx q3 q4 ok1 ok2
    rcases q1 with h1 | h1 <;> rcases q2 with h2 | h2
    · have h3 := HQ4.out h1 h2
      have H1 := Lib.hid h1
      have H2 := Lib.hid h2
      have H3 := Lib.hid h3
      clear h1 h2 h3 HQ3 HQ4
      go_enter Tryz.func7, Tryz.ntmps7
      go_wp2_with fail
      refine HP1.out.mono ?_
      rintro e w1 ⟨v1, rfl, ho1, hb1⟩
      obtain ⟨A1, c1, l1, rfl, hL1, hl1⟩ := ow_agg ho1
      rw [H1.out]
      obtain ⟨p1, hp1⟩ : ∃ p, (parseV s.data.toList).2.1 = p := ⟨_, rfl⟩
      rw [hp1]
      go_wp2_with fail
      have hn1 := heap_alloc_new w1 (.cells #[.bool p1, .slice A1 l1.length c1] 24)
      have hbn1 := below_new w1 (.cells #[.bool p1, .slice A1 l1.length c1] 24)
      obtain ⟨W1, hW1⟩ : ∃ W, w1.alloc (.cells #[.bool p1, .slice A1 l1.length c1] 24) = W := ⟨_, rfl⟩
      rw [hW1] at hn1 hbn1 ⊢
      clear hW1 ho1
      have hB1 := hb1.trans (hbn1.mono hb1.size)
      refine (HP.out t W1 hB1 HSX.out.1).mono ?_
      rintro e w2 ⟨v2, rfl, ho2, hb2⟩
      obtain ⟨A2, c2, l2, rfl, hL2, hl2⟩ := ow_agg ho2
      rw [H2.out]
      obtain ⟨p2, hp2⟩ : ∃ p, (parseV t.data.toList).2.1 = p := ⟨_, rfl⟩
      rw [hp2]
      have n1 := row_below hn1 hb2
      have L1 := (hL1.below hbn1).below hb2
      have B2 := hB1.trans (hb2.mono hB1.size)
      obtain ⟨b5, hb5⟩ : ∃ b, w1.heap.size = b := ⟨_, rfl⟩
      rw [hb5] at n1 ⊢
      clear hn1 hbn1 hL1 hb1 hB1 hb2 ho2 hb5
      have N1 := Lib.hid n1
      have HL1 := Lib.hid L1
      have HL2 := Lib.hid hL2
      have HB2 := Lib.hid B2
      clear n1 L1 hL2 B2
      go_wp2_with fail
      rw [HX.out]
      have hn2 := heap_alloc_new w2 (.cells #[.bool p2, .slice A2 l2.length c2] 24)
      have hbn2 := below_new w2 (.cells #[.bool p2, .slice A2 l2.length c2] 24)
      have hne5 : b5 < w2.heap.size := (Array.getElem?_eq_some_iff.1 N1.out).1
      obtain ⟨W2, hW2⟩ : ∃ W, w2.alloc (.cells #[.bool p2, .slice A2 l2.length c2] 24) = W := ⟨_, rfl⟩
      rw [hW2] at hn2 hbn2 ⊢
      clear hW2
      have hB2 := HB2.out.trans (hbn2.mono HB2.out.size)
      refine (HP.out x W2 hB2 HSX.out.2).mono ?_
      rintro e w3 ⟨v3, rfl, ho3, hb3⟩
      obtain ⟨A3, c3, l3, rfl, hL3, hl3⟩ := ow_agg ho3
      rw [H3.out] at hl3 ⊢
      simp only at hl3 ⊢
      have hmo : mergeO (parseV s.data.toList).2 (parseV t.data.toList).2 = (p1 || p2, lnsX (l1 ++ l2)) := by unfold mergeO; rw [hp1, hp2, lnsX_append, hl1, hl2]
      rw [hmo] at hl3 ⊢
      simp only at hl3 ⊢
      obtain ⟨b7, hb7⟩ : ∃ b, w2.heap.size = b := ⟨_, rfl⟩
      have m1 := row_below (row_below N1.out hbn2) hb3
      have m2 := row_below hn2 hb3
      rw [hb7] at m2 hne5 ⊢
      have L1 := (HL1.out.below hbn2).below hb3
      have L2 := (HL2.out.below hbn2).below hb3
      have B3 := hB2.trans (hb3.mono hB2.size)
      have ln1 : l1.length ≤ 16385 := by rw [← lnsX_length, hl1]; exact HOK1.out
      have ln2 : l2.length ≤ 16385 := by rw [← lnsX_length, hl2]; exact HOK2.out
      have hn3 := heap_alloc_new w3 (.cells #[.bool (p1 || p2), .slice A3 l3.length c3] 24)
      have hbn3 := below_new w3 (.cells #[.bool (p1 || p2), .slice A3 l3.length c3] 24)
      obtain ⟨W3, hW3⟩ : ∃ W, w3.alloc (.cells #[.bool (p1 || p2), .slice A3 l3.length c3] 24) = W := ⟨_, rfl⟩
      have hl7 : b7 < w3.heap.size := (Array.getElem?_eq_some_iff.1 m2).1
      have M1 := row_below m1 (by rw [← hW3]; exact hbn3 : Below w3.heap.size w3 W3)
      have M2 := row_below m2 (by rw [← hW3]; exact hbn3 : Below w3.heap.size w3 W3)
      have hn3s : W3.heap.size = w3.heap.size + 1 := by rw [← hW3]; simp
      rw [hW3] at hn3 hbn3
      obtain ⟨b9, hb9⟩ : ∃ b, w3.heap.size = b := ⟨_, rfl⟩
      rw [hb9] at hn3 hn3s hl7
      have LL1 := L1.below hbn3
      have LL2 := L2.below hbn3
      have LL3 := hL3.below hbn3
      have c5 : W3.cell? ⟨b5, 1, none⟩ = some (.slice A1 l1.length c1) := cell_of_row _ _ 1 _ _ _ M1
      have Hw := Lib.hid hW3
      have HB3 := Lib.hid (B3.trans (hbn3.mono B3.size))
      have HM1 := Lib.hid M1
      have HM2 := Lib.hid M2
      have HM3 := Lib.hid hn3
      have HLL1 := Lib.hid LL1
      have HLL2 := Lib.hid LL2
      have HLL3 := Lib.hid LL3
      have HE3 := Lib.hid hl3
      have HNE : Hid (b5 < b7 ∧ b7 < b9 ∧ W3.heap.size = b9 + 1 ∧ l1.length ≤ 16385 ∧ l2.length ≤ 16385) := ⟨hne5, hl7, hn3s, ln1, ln2⟩
      have g11 : Hid (w3.heap.size = b9) := hb9
      clear hn2 hbn2 hB2 hb3 ho3 hL3 hl3 hmo m1 m2 L1 L2 B3 ln1 ln2 hn3 hbn3 hl7 M1 M2 hn3s LL1 LL2 LL3 hne5 N1 HL1 HL2 HB2 hW3 hb9 hb7 hl1 hl2 hp1 hp2
      go_upto_region 8 with (fail)
      rw [Hw.out, g11.out]
      clear Hw g11
      obtain ⟨M, hM⟩ : ∃ M, l1 ++ l2 = M := ⟨_, rfl⟩
      have HM := Lib.hid hM
      clear hM
      go_upto_region 10 with (at_builtin; go_loud (refine wpList_append_lines rfl _ _ rfl W3.heap.size (.slice none 0 0) [] l1 A1 c1 rfl (World.ownsRow_nil _ _ _ _) rfl HLL1.out (by rw [List.length_nil]; have := HNE.out; omega) (Nat.le_refl _) ?_; intro v4 w4 hown4 hg4; obtain ⟨A4, c4, hv4, _, _⟩ := ownsRow_slice hown4; subst hv4; have hn4 : w4.ownsRow W3.heap.size 62 2 (.slice A4 l1.length c4) l1.length (lcells l1) := hown4; have HO4 := Lib.hid hn4; have HG4 := Lib.hid hg4; clear hown4 hg4 hn4))
      have hb4 : Below W3.heap.size W3 w4 := ⟨HG4.out.os, HG4.out.tape, HG4.out.output, HG4.out.size, fun j hj => HG4.out.block j hj (by simp [Value.ownBlock])⟩
      have c7 : w4.cell? ⟨b7, 1, none⟩ = some (.slice A2 l2.length c2) := cell_of_row _ _ 1 _ _ _ (row_below HM2.out hb4)
      have HLL24 := Lib.hid (HLL2.out.below hb4)
      have HB4 := Lib.hid hb4
      clear hb4 c5
      go_upto_region 11 with (at_builtin; go_loud (refine wpList_append_lines rfl _ _ rfl W3.heap.size (.slice A4 l1.length c4) l1 l2 A2 c2 rfl HO4.out rfl HLL24.out (by have := HNE.out; omega) HB4.out.size ?_; intro v5 w5 hown5 hg5; have hb5 := below_two HG4.out hg5 HO4.out; rw [HM.out] at hown5; obtain ⟨A5, c5, hv5, _, _⟩ := ownsRow_slice hown5; subst hv5; have HO5 := Lib.hid hown5; have HB5 := Lib.hid hb5; clear hown5 hg5 hb5))
      have r5 := row_below HM1.out HB5.out
      have r7 := row_below HM2.out HB5.out
      have r9 := row_below HM3.out HB5.out
      have d5 : w5.cell? ⟨b5, 0, none⟩ = some (.bool p1) := cell_of_row _ _ 0 _ _ _ r5
      have d7 : w5.cell? ⟨b7, 0, none⟩ = some (.bool p2) := cell_of_row _ _ 0 _ _ _ r7
      have d9 : w5.cell? ⟨b9, 0, none⟩ = some (.bool (p1 || p2)) := cell_of_row _ _ 0 _ _ _ r9
      have e9 : w5.cell? ⟨b9, 1, none⟩ = some (.slice A3 l3.length c3) := cell_of_row _ _ 1 _ _ _ r9
      have hoa : OwnersAt w5 M := fun y hy => by
        rw [← HM.out] at hy
        rcases List.mem_append.1 hy with hy | hy
        · exact (HLL1.out.below HB5.out).own y hy
        · exact (HLL2.out.below HB5.out).own y hy
      obtain ⟨A6, c6, hv6, hL6⟩ := lines_own HO5.out hoa
      simp only [Value.slice.injEq, true_and] at hv6
      obtain ⟨rfl, rfl⟩ := hv6
      have hl3 := HE3.out
      rw [HM.out] at hl3
      have HS := Lib.hid (osame_any (owV (p1 || p2) A3 l3.length c3) (owV (p1 || p2) A5 M.length c5) (p1 || p2, lnsX M) (p1 || p2, lnsX M) w5 ⟨A3, c3, l3, rfl, HLL3.out.below HB5.out, hl3⟩ ⟨A5, c5, M, rfl, hL6, rfl⟩)
      have HB6 := Lib.hid (HB3.out.trans (HB5.out.mono HB3.out.size))
      unfold owV at HS
      rw [decide_eq_true rfl] at HS
      clear r5 r7 r9 hoa hL6 hl3 c7 HP HP1 HLL1 HLL2 HLL3 HLL24 HM1 HM2 HM3 HNE HO4 HG4 HO5 HB4 HB3 HB5 HM HE3
      cases p1 <;> cases p2 <;>
      · simp only [Bool.or_true, Bool.or_false] at HS d9 ⊢
        go_wp2_with fail
        refine HS.out.mono ?_
        rintro e w6 ⟨rfl, hb6⟩
        have hB6 := HB6.out.trans (hb6.mono HB6.out.size)
        have HK1 := Lib.hid (HK.out _ hB6)
        have HB7 := Lib.hid hB6
        clear hB6 hb6
        go_wp2_with fail
        refine HK1.out.mono ?_
        rintro e w7 ⟨rfl, hb7⟩
        go_wp2_with fail
        go_ret
        exact ⟨rfl, HB7.out.trans (hb7.mono HB7.out.size)⟩
    all_goals
      have h3 : (parseV x.data.toList).1 = 11 := HQ3.out (by first | exact .inl (by rw [h1]; decide) | exact .inr (by rw [h2]; decide))
      have H1 := Lib.hid h1
      have H2 := Lib.hid h2
      have H3 := Lib.hid h3
      clear h1 h2 h3 HQ3 HQ4 HOK1 HOK2
      go_enter Tryz.func7, Tryz.ntmps7
      go_wp2_with fail
      refine HP1.out.mono ?_
      rintro e w1 ⟨v1, rfl, ho1, hb1⟩
      obtain ⟨A1, c1, l1, rfl, _, _⟩ := ow_agg ho1
      rw [H1.out]
      obtain ⟨p1, hp1⟩ : ∃ p, (parseV s.data.toList).2.1 = p := ⟨_, rfl⟩
      rw [hp1]
      clear hp1
      go_wp2_with fail
      have hbn1 := below_new w1 (.cells #[.bool p1, .slice A1 l1.length c1] 24)
      obtain ⟨W1, hW1⟩ : ∃ W, w1.alloc (.cells #[.bool p1, .slice A1 l1.length c1] 24) = W := ⟨_, rfl⟩
      rw [hW1] at hbn1 ⊢
      clear hW1 ho1
      have hB1 := hb1.trans (hbn1.mono hb1.size)
      refine (HP.out t W1 hB1 HSX.out.1).mono ?_
      rintro e w2 ⟨v2, rfl, ho2, hb2⟩
      obtain ⟨A2, c2, l2, rfl, _, _⟩ := ow_agg ho2
      rw [H2.out]
      obtain ⟨p2, hp2⟩ : ∃ p, (parseV t.data.toList).2.1 = p := ⟨_, rfl⟩
      rw [hp2]
      have hB2 := hB1.trans (hb2.mono hB1.size)
      have HB2 := Lib.hid hB2
      clear hp2 hbn1 hb1 hB1 hb2 ho2 hB2
      go_wp2_with fail
      rw [HX.out]
      have hbn2 := below_new w2 (.cells #[.bool p2, .slice A2 l2.length c2] 24)
      obtain ⟨W2, hW2⟩ : ∃ W, w2.alloc (.cells #[.bool p2, .slice A2 l2.length c2] 24) = W := ⟨_, rfl⟩
      rw [hW2] at hbn2 ⊢
      clear hW2
      have hB3 := HB2.out.trans (hbn2.mono HB2.out.size)
      refine (HP.out x W2 hB3 HSX.out.2).mono ?_
      rintro e w3 ⟨v3, rfl, ho3, hb3⟩
      obtain ⟨A3, c3, l3, rfl, _, _⟩ := ow_agg ho3
      rw [H3.out]
      obtain ⟨p3, hp3⟩ : ∃ p, (parseV x.data.toList).2.1 = p := ⟨_, rfl⟩
      rw [hp3]
      have hB4 := hB3.trans (hb3.mono hB3.size)
      have hB5 := hB4.trans ((below_new w3 (.cells #[.bool p3, .slice A3 l3.length c3] 24)).mono hB4.size)
      have HK1 := Lib.hid (HK.out _ hB5)
      have HB5 := Lib.hid hB5
      clear hp3 hbn2 hB3 hb3 hB4 hB5 ho3 HK HP
      go_wp2_with fail
      refine HK1.out.mono ?_
      rintro e w7 ⟨rfl, hb7⟩
      go_wp2_with fail
      go_ret
      exact ⟨rfl, HB5.out.trans (hb7.mono HB5.out.size)⟩
end Go.Proofs.YtioiieammmdilaaGreatDoor
