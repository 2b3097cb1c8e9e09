/-
  The contracts of the document's own answers of layer 2: find, Drop, Put, Same.
-/
import Derived.Test.YtffhfllikamccaaGreatDoorTSizes
namespace Go.Proofs.YtffhfllikamccaaGreatDoor
open Go Go.RowKit Go.Shelf Go.Proofs
attribute [local go_sem] Oper.semAt_some

/-- One file more in a row of the call's own. -/
theorem wpList_append_file {ops : Array Oper} {rest : List Oper} {o : Oper} {a : Act} {w : World} {Q : Exit → Act → World → Prop} (hgd : o.guard = none) (s x : Operand)
    (ho : o.op = .call { callee := .builtin .append, args := #[s, x], argTypes := #[23, 23] })
    (base : Nat) (v : Value) (l : List FX) (f : FX) (g c : Nat) (hs : a.eval s = v) (hown : FilesOwn base w v l) (hx : a.eval x = .slice (some ⟨g, 0, none⟩) 1 c) (hb : BoxF w g f) (hl : l.length ≤ 100000) (hbase : base ≤ w.heap.size)
    (h : ∀ v' w', FilesOwn base w' v' (l ++ [f]) → w.grownBy w' v.ownBlock → wpList Tryz.prog ops Q rest (a.put o.dst v') w') : wpList Tryz.prog ops Q (o :: rest) a w := by
  obtain ⟨i0, hi, hz0, hz1, hz2⟩ := info_parts file_info
  refine wpList_append_own w hgd s x 23 ho base 65 i0 (.agg #[.string ⟨#[]⟩, .slice none 0 0]) 2 40 Tryz.underlying23 hi hz0 hz1 hz2 rfl (by decide) v l.length (fcells l) hs hown ⟨g, 0, none⟩ 1 c f.cs hx rfl ?_ ?_ (by unfold maxLen; omega) (by omega) hbase fun v' w' h1 h2 _ => h v' w' ?_ h2
  · intro j u hu
    rw [Go.WideShapes.add_plain, Nat.zero_add]
    match j, hu with
    | 0, hu => obtain rfl : Value.string f.p = u := by simpa [FX.cs] using hu
               exact hb.c0
    | 1, hu => obtain rfl : Value.slice f.A f.b.length f.c = u := by simpa [FX.cs] using hu
               exact hb.c1
    | j + 2, hu => simp [FX.cs] at hu
  · intro u hu
    simp only [FX.cs, List.mem_cons, List.mem_nil_iff, or_false] at hu
    rcases hu with rfl | rfl <;> rfl
  · show World.ownsRow _ _ _ _ _ _ _
    rw [List.length_append, fcells_append]; exact h1
/-- What a call of the document's answers, other files' bytes shared: a row of its own. -/
def RefPost (w : World) (l : List FX) (e : Ending) (w' : World) : Prop := ∃ v', e = .returned v' ∧ FilesOwn w.heap.size w' v' l ∧ Below w.heap.size w w'

set_option maxHeartbeats 2000000 in
theorem reffind_any (l : List FX) (A : Option Addr) (c : Nat) (s : ByteArray) (w : World) (h : TreeAt w A c l) (hl : l.length ≤ 100000) :
    Calls Tryz.prog 43 #[.slice A l.length c, .string s] w fun e w' => e = .returned (.int .i64 (placeX l s)) ∧ Below w.heap.size w w' := by
  have HT := Lib.hid h; clear h
  go_enter Tryz.func43, Tryz.ntmps43
  go_wp2_with fail
  go_loopw [5] (fun i wr => ∃ (k : Nat), k ≤ l.length ∧ i = .int .i64 k ∧ (∀ j y, j < k → l[j]? = some y → (y.p.toList == s.toList) = false) ∧ Below w.heap.size w wr) (fun i _ => l.length - (intOf i).toNat)
  case atStart => exact ⟨0, Nat.zero_le _, rfl, fun _ _ h => absurd h (Nat.not_lt_zero _), Below.refl _ _⟩
  case round =>
    obtain ⟨k, hk, rfl, hno, hbr⟩ := hrel
    by_cases h1 : k < l.length
    · obtain ⟨x, hx⟩ : ∃ x, l[k]? = some x := ⟨_, List.getElem?_eq_getElem h1⟩
      obtain ⟨b, o, hA, hr⟩ := HT.out.row (by omega)
      subst hA
      obtain ⟨c1, _⟩ := (hr.keep fun hb => hbr.block _ hb) k x hx
      have k1 : (k : Int) < (l.length : Int) := by omega
      have HX := Lib.hid hx; clear hx
      have HNO := Lib.hid hno; clear hno
      clear hr
      cases hq : (x.p.toList == s.toList) with
      | true =>
        have hp : placeX l s = (k : Int) := idxF_hit HX.out hq HNO.out
        have HP := Lib.hid hp; clear hp
        go_wp2_with fail
        go_ret
        exact ⟨by rw [HP.out]; rfl, hbr⟩
      | false =>
        go_wp2_with fail
        go_roundw
        case rel => exact ⟨k + 1, by omega, by go_num, fun j y hj hy => by
          rcases Nat.lt_or_eq_of_le (Nat.lt_succ_iff.1 hj) with hj | rfl
          · exact HNO.out j y hj hy
          · have := HX.out; rw [hy] at this; cases this; exact hq, hbr⟩
        case measure => simp [intOf]; omega
    · obtain rfl : k = l.length := by omega
      have hp : placeX l s = -1 := idxF_miss fun y hy => by obtain ⟨j, hj, rfl⟩ := List.mem_iff_getElem.1 hy; exact hno j _ hj (List.getElem?_eq_getElem hj)
      have HP := Lib.hid hp; clear hp
      clear hno
      go_wp2_with fail
      go_ret
      exact ⟨by rw [HP.out]; rfl, hbr⟩

theorem keepX_step {l : List FX} {k : Nat} {x : FX} (s : ByteArray) (hx : l[k]? = some x) : keepX (l.take (k + 1)) s = keepX (l.take k) s ++ (if (x.p.toList == s.toList) = true then [] else [x]) := by
  unfold keepX
  rw [List.take_add_one, hx, List.filter_append]
  congr 1
  show [x].filter _ = _
  rw [List.filter_cons]
  cases x.p.toList == s.toList <;> rfl

set_option maxRecDepth 100000 in
set_option maxHeartbeats 4000000 in
theorem refdrop_any (l : List FX) (A : Option Addr) (c : Nat) (s : ByteArray) (w : World) (h : TreeAt w A c l) (hl : l.length ≤ 100000) :
    Calls Tryz.prog 44 #[.slice A l.length c, .string s] w (RefPost w (keepX l s)) := by
  have HT := Lib.hid h; clear h
  go_enter Tryz.func44, Tryz.ntmps44
  go_wp2_with fail
  go_loopw [5, 6] (fun v i wr => ∃ (k : Nat), k ≤ l.length ∧ i = .int .i64 k ∧ FilesOwn w.heap.size wr v (keepX (l.take k) s) ∧ Below w.heap.size w wr) (fun _ i _ => l.length - (intOf i).toNat)
  case atStart => exact ⟨0, Nat.zero_le _, rfl, World.ownsRow_nil _ _ _ _, Below.refl _ _⟩
  case round =>
    obtain ⟨k, hk, rfl, hrow, hbr⟩ := hrel
    obtain ⟨Av, cv, rfl⟩ := hrow.slice
    have hW := hbr.size
    by_cases h1 : k < l.length
    · obtain ⟨x, hx⟩ : ∃ x, l[k]? = some x := ⟨_, List.getElem?_eq_getElem h1⟩
      obtain ⟨b, o, hA, hr⟩ := HT.out.row (by omega)
      subst hA
      obtain ⟨c1, c2⟩ := (hr.keep fun hb => hbr.block _ hb) k x hx
      have k1 : (k : Int) < (l.length : Int) := by omega
      have hlen : (keepX (l.take k) s).length ≤ 100000 := Nat.le_trans (List.length_filter_le _ _) (by rw [List.length_take]; omega)
      have hsn := keepX_step s hx
      have HSN := Lib.hid hsn; clear hsn
      have HX := Lib.hid hx; clear hx
      have HR := Lib.hid hrow; clear hrow
      clear hr
      cases hq : (x.p.toList == s.toList) with
      | true =>
        have hn : keepX (l.take (k + 1)) s = keepX (l.take k) s := by rw [HSN.out, if_pos hq, List.append_nil]
        have HN := Lib.hid hn; clear hn
        go_wp2_with fail
        go_roundw
        case rel => exact ⟨k + 1, by omega, by go_num, by rw [HN.out]; exact HR.out, hbr⟩
        case measure => simp [intOf]; omega
      | false =>
        have hn : keepX (l.take (k + 1)) s = keepX (l.take k) s ++ [x] := by rw [HSN.out, if_neg (by rw [hq]; decide)]
        have HN := Lib.hid hn; clear hn
        go_wp2_with (at_builtin; refine wpList_append_file rfl _ _ rfl w.heap.size _ (keepX (l.take k) s) x wr.heap.size 1 rfl (HR.out.below (below_box _ _)) rfl (BoxF.new _ _ _) hlen (Nat.le_trans hW (below_box _ _).size) ?_; intro v' w' hown' hgrow; obtain ⟨A', c', rfl⟩ := hown'.slice; rw [List.length_append, List.length_singleton] at hown')
        go_roundw
        case rel => exact ⟨k + 1, by omega, by go_num, by rw [HN.out]; exact hown', (hbr.trans ((Below.refl _ _).alloc hW _)).grown hgrow (Nat.le_trans hW (below_box _ _).size) fun j ej => (HR.out.row ej).1⟩
        case measure => simp [intOf]; omega
    · obtain rfl : k = l.length := by omega
      rw [List.take_length] at *
      go_wp2_with fail
      go_ret
      exact ⟨_, rfl, hrow, hbr⟩

/-- What Put has laid behind k files of the list without the path. -/
def putTo (L : List FX) (f : FX) (k : Nat) : List FX := if k ≤ aboveX L f.p then L.take k else L.take (aboveX L f.p) ++ f :: (L.drop (aboveX L f.p)).take (k - aboveX L f.p)
theorem aboveX_front {L : List FX} {s : ByteArray} {j : Nat} {y : FX} (hj : j < aboveX L s) (hy : L[j]? = some y) : ltB s.data.toList y.p.data.toList = false := by
  unfold aboveX at hj
  have h1 := (List.takeWhile_prefix (l := L) fun x => !ltB s.data.toList x.p.data.toList).getElem hj
  have h3 := List.all_eq_true.1 (List.all_takeWhile (l := L) (p := fun x => !ltB s.data.toList x.p.data.toList)) _ (List.getElem_mem hj)
  rw [h1] at h3
  obtain ⟨_, e⟩ := List.getElem?_eq_some_iff.1 hy
  rw [e] at h3
  simpa using h3
theorem aboveX_at {L : List FX} {s : ByteArray} {y : FX} (hy : L[aboveX L s]? = some y) : ltB s.data.toList y.p.data.toList = true := by
  have h := dropWhile_head (fun x : FX => !ltB s.data.toList x.p.data.toList) L
  have e : L.drop (aboveX L s) = L.dropWhile (fun x : FX => !ltB s.data.toList x.p.data.toList) := by
    unfold aboveX
    conv => lhs; arg 2; rw [← List.takeWhile_append_dropWhile (p := fun x : FX => !ltB s.data.toList x.p.data.toList) (l := L)]
    rw [List.drop_left]
  have h2 : L.dropWhile (fun x : FX => !ltB s.data.toList x.p.data.toList) = y :: L.drop (aboveX L s + 1) := by
    rw [← e]
    obtain ⟨hl, rfl⟩ := List.getElem?_eq_some_iff.1 hy
    exact List.drop_eq_getElem_cons hl
  have := h _ _ h2
  simpa using this
theorem put_zero (L : List FX) (f : FX) : putTo L f 0 = [] := by unfold putTo; rw [if_pos (Nat.zero_le _)]; rfl
theorem put_under {L : List FX} {f x : FX} {k : Nat} (hx : L[k]? = some x) (hk : k ≤ aboveX L f.p) (hu : ltB f.p.data.toList x.p.data.toList = false) : k < aboveX L f.p ∧ putTo L f (k + 1) = putTo L f k ++ [x] := by
  have h1 : k < aboveX L f.p := by
    rcases Nat.lt_or_eq_of_le hk with h | h
    · exact h
    · rw [h] at hx
      rw [aboveX_at hx] at hu; cases hu
  refine ⟨h1, ?_⟩
  unfold putTo
  rw [if_pos hk, if_pos (show k + 1 ≤ _ from h1), List.take_add_one, hx]; rfl
theorem put_above {L : List FX} {f x : FX} {k : Nat} (hx : L[k]? = some x) (hk : k ≤ aboveX L f.p) (hu : ltB f.p.data.toList x.p.data.toList = true) : k = aboveX L f.p ∧ putTo L f (k + 1) = (putTo L f k ++ [f]) ++ [x] := by
  have h1 : k = aboveX L f.p := by
    rcases Nat.lt_or_eq_of_le hk with h | h
    · rw [aboveX_front h hx] at hu; cases hu
    · exact h
  refine ⟨h1, ?_⟩
  unfold putTo
  rw [if_pos hk, if_neg (by omega), ← h1, show k + 1 - k = 1 from by omega]
  obtain ⟨hl, rfl⟩ := List.getElem?_eq_some_iff.1 hx
  rw [List.drop_eq_getElem_cons hl]
  simp only [List.take_succ_cons, List.take_zero, List.append_assoc, List.cons_append, List.nil_append]
theorem put_laid {L : List FX} {f x : FX} {k : Nat} (hx : L[k]? = some x) (hk : aboveX L f.p < k) : putTo L f (k + 1) = putTo L f k ++ [x] := by
  unfold putTo
  rw [if_neg (by omega), if_neg (by omega), show k + 1 - aboveX L f.p = (k - aboveX L f.p) + 1 from by omega, List.take_add_one, List.getElem?_drop, show aboveX L f.p + (k - aboveX L f.p) = k from by omega, hx]
  simp
theorem put_last {L : List FX} {f : FX} (hk : L.length ≤ aboveX L f.p) : putTo L f L.length ++ [f] = insX L (aboveX L f.p) f := by
  have h1 := aboveX_le L f.p
  have h2 : aboveX L f.p = L.length := by omega
  unfold putTo insX
  rw [if_pos hk, h2, List.take_length, List.drop_length]
theorem put_done {L : List FX} {f : FX} (hk : aboveX L f.p < L.length) : putTo L f L.length = insX L (aboveX L f.p) f := by
  unfold putTo insX
  rw [if_neg (by omega), List.take_of_length_le (l := L.drop (aboveX L f.p)) (by rw [List.length_drop]; omega)]
theorem putTo_le (L : List FX) (f : FX) (k : Nat) : (putTo L f k).length ≤ L.length + 1 := by
  unfold putTo
  split
  · rw [List.length_take]; omega
  · rw [List.length_append, List.length_cons, List.length_take, List.length_take, List.length_drop]; omega
theorem putTo_sub {L : List FX} {f : FX} {k : Nat} : ∀ x ∈ putTo L f k, x = f ∨ x ∈ L := fun x hx => by
  unfold putTo at hx
  split at hx
  · exact .inr (List.mem_of_mem_take hx)
  · rcases List.mem_append.1 hx with h | h
    · exact .inr (List.mem_of_mem_take h)
    · rcases List.mem_cons.1 h with h | h
      · exact .inl h
      · exact .inr (List.mem_of_mem_drop (List.mem_of_mem_take h))
theorem keepX_ne {l : List FX} {s : ByteArray} {x : FX} (h : x ∈ keepX l s) : (x.p.toList == s.toList) = false := by
  have := (List.mem_filter.1 h).2
  simpa using this

set_option maxRecDepth 100000 in
set_option maxHeartbeats 8000000 in
theorem refput_any (l : List FX) (A : Option Addr) (c : Nat) (f : FX) (w : World) (h : TreeAt w A c l) (hl : l.length ≤ 90000) :
    Calls Tryz.prog 45 #[.slice A l.length c, .agg #[.string f.p, .slice f.A f.b.length f.c]] w (RefPost w (putX l f)) := by
  obtain ⟨W, hW⟩ : ∃ W, w.alloc (.cells #[.string f.p, .slice f.A f.b.length f.c] 65) = W := ⟨_, rfl⟩
  have hb0 : Below w.heap.size w W := by rw [← hW]; exact below_box _ _
  have xf0 : BoxF W w.heap.size f := by rw [← hW]; exact BoxF.new w f _
  have HD := refdrop_any l A c f.p W (h.below hb0) (by omega)
  have kf0 := xf0.c0
  go_enter Tryz.func45, Tryz.ntmps45
  go_wp2_with fail
  clear hW
  refine HD.mono ?_
  rintro e w1 ⟨v1, rfl, h1, hq1⟩
  obtain ⟨A1, c1, rfl⟩ := h1.slice
  have hT1 := (h1.tree fun x hx => ((h.below hb0).files x (keepX_sub x hx)).below hq1).2
  have hb1 := hb0.trans (hq1.mono hb0.size)
  have xf1 := xf0.below hq1
  obtain ⟨L, hL⟩ : ∃ L, keepX l f.p = L := ⟨_, rfl⟩
  have hne : ∀ x ∈ L, (x.p.toList == f.p.toList) = false := fun x hx => keepX_ne (by rw [hL]; exact hx)
  have hput : putX l f = insX L (aboveX L f.p) f := by unfold putX; rw [hL]
  have hLl : L.length ≤ 90000 := by rw [← hL]; exact Nat.le_trans (List.length_filter_le _ _) hl
  rw [hL] at hT1 ⊢
  have HPUT := Lib.hid hput
  have HNE := Lib.hid hne; clear hne
  have HT := Lib.hid hT1; clear hT1
  have HB1 := Lib.hid hb1; clear hb1
  have XF := Lib.hid xf1; clear xf1
  clear HD h1 hq1 kf0 xf0 h hb0 hput hL hl
  go_wp2_with fail
  go_loopw [6, 7, 8] (fun v b i wr => ∃ (k : Nat), k ≤ L.length ∧ i = .int .i64 k ∧ b = .bool (decide (aboveX L f.p < k)) ∧ FilesOwn w1.heap.size wr v (putTo L f k) ∧ Below w1.heap.size w1 wr) (fun _ _ i _ => L.length - (intOf i).toNat)
  case atStart => exact ⟨0, Nat.zero_le _, rfl, by rw [decide_eq_false (Nat.not_lt_zero _)], by rw [put_zero]; exact World.ownsRow_nil _ _ _ _, Below.refl _ _⟩
  case round =>
    obtain ⟨k, hk, rfl, rfl, hrow, hbr⟩ := hrel
    obtain ⟨Av, cv, rfl⟩ := hrow.slice
    have hW := hbr.size
    have hlen := putTo_le L f k
    have xf := XF.out.below hbr
    have kf0 := xf.c0
    have kf1 := xf.c1
    by_cases h1 : k < L.length
    · obtain ⟨x, hx⟩ : ∃ x, L[k]? = some x := ⟨_, List.getElem?_eq_getElem h1⟩
      obtain ⟨b, o, hA, hr⟩ := (HT.out.below hbr).row (by omega)
      subst hA
      obtain ⟨c1, c2⟩ := hr k x hx
      have k1 : (k : Int) < (L.length : Int) := by omega
      have wk : IntKind.i64.wrap (k : Int) = (k : Int) := IntWalk.i64_in _ (by omega)
      have hq2 := HNE.out x (List.mem_of_getElem? hx)
      have HX := Lib.hid hx; clear hx
      have HR := Lib.hid hrow; clear hrow
      have XR := Lib.hid xf; clear xf
      have HRd : FilesOwn w1.heap.size wr.drew (.slice Av (putTo L f k).length cv) (putTo L f k) := HR.out.below (below_drew1 wr)
      have HBR := Lib.hid hbr; clear hbr
      clear hr
      cases hd : decide (aboveX L f.p < k) with
      | true =>
        have hn := put_laid (f := f) HX.out (of_decide_eq_true hd)
        have HN := Lib.hid hn; clear hn
        have hd2 : decide (aboveX L f.p < k + 1) = true := decide_eq_true (by have := of_decide_eq_true hd; omega)
        have HD2 := Lib.hid hd2; clear hd2
        clear hd
        go_wp2_with fail
        go_region
        go_wp2_with (at_builtin; refine wpList_append_file rfl _ _ rfl w1.heap.size _ (putTo L f k) x wr.heap.size 1 rfl (HRd.below (below_box wr.drew _)) rfl (BoxF.new wr.drew _ _) (by omega) (Nat.le_trans hW (below_box wr _).size) ?_; intro v' w' hown' hgrow; obtain ⟨A', c', rfl⟩ := hown'.slice; rw [List.length_append, List.length_singleton] at hown')
        go_roundw
        case rel => exact ⟨k + 1, by omega, by go_num, by rw [HD2.out], by rw [HN.out]; exact hown', ((HBR.out.drew).trans ((Below.refl _ wr.drew).alloc hW _)).grown hgrow (Nat.le_trans hW (below_box wr _).size) fun j ej => (HR.out.row ej).1⟩
        case measure => simp [intOf]; omega
      | false =>
        have hkm : k ≤ aboveX L f.p := by have := of_decide_eq_false hd; omega
        cases hu : ltB f.p.data.toList x.p.data.toList with
        | false =>
          have hq1 : Op.bytesLess x.p.toList f.p.toList = true := by
            rw [ByteArray.toList_eq, ByteArray.toList_eq]
            cases e : Op.bytesLess x.p.data.toList f.p.data.toList with
            | true => rfl
            | false =>
              have := ltB_tri _ _ hu e
              rw [ByteArray.toList_eq, ByteArray.toList_eq, this] at hq2
              simp at hq2
          obtain ⟨hlt, hn⟩ := put_under HX.out hkm hu
          have HN := Lib.hid hn; clear hn
          have hd2 : decide (aboveX L f.p < k + 1) = false := decide_eq_false (by omega)
          have HD2 := Lib.hid hd2; clear hd2
          clear hd hkm hu
          go_wp2_with fail
          go_region
          go_wp2_with (at_builtin; refine wpList_append_file rfl _ _ rfl w1.heap.size _ (putTo L f k) x wr.heap.size 1 rfl (HRd.below (below_box wr.drew _)) rfl (BoxF.new wr.drew _ _) (by omega) (Nat.le_trans hW (below_box wr _).size) ?_; intro v' w' hown' hgrow; obtain ⟨A', c', rfl⟩ := hown'.slice; rw [List.length_append, List.length_singleton] at hown')
          go_roundw
          case rel => exact ⟨k + 1, by omega, by go_num, by rw [HD2.out], by rw [HN.out]; exact hown', ((HBR.out.drew).trans ((Below.refl _ wr.drew).alloc hW _)).grown hgrow (Nat.le_trans hW (below_box wr _).size) fun j ej => (HR.out.row ej).1⟩
          case measure => simp [intOf]; omega
        | true =>
          have hq1 : Op.bytesLess x.p.toList f.p.toList = false := by rw [ByteArray.toList_eq, ByteArray.toList_eq]; exact ltB_asymm _ _ hu
          obtain ⟨hlt, hn⟩ := put_above HX.out hkm hu
          have HN := Lib.hid hn; clear hn
          have hd2 : decide (aboveX L f.p < k + 1) = true := decide_eq_true (by omega)
          have HD2 := Lib.hid hd2; clear hd2
          clear hd hkm hu hlt
          go_wp2_with fail
          go_region
          go_wp2_with (at_builtin; first | (refine wpList_append_file rfl _ _ rfl w1.heap.size _ (putTo L f k) f wr.heap.size 1 rfl (HRd.below (below_box wr.drew _)) rfl (BoxF.new wr.drew _ _) (by omega) (Nat.le_trans hW (below_box wr _).size) ?_; intro v2 w2 hown2 hgrow2; obtain ⟨A2, c2', rfl⟩ := hown2.slice; rw [List.length_append, List.length_singleton] at hown2; have hb2 := ((HBR.out.drew).trans ((Below.refl _ wr.drew).alloc hW _)).grown hgrow2 (Nat.le_trans hW (below_box wr _).size) (fun j ej => (HR.out.row ej).1); obtain ⟨_, _, hA2, hr2⟩ := (HT.out.below hb2).row (by omega); cases hA2; obtain ⟨d1, d2⟩ := hr2 k x HX.out; clear c1 hr2) | (refine wpList_append_file rfl _ _ rfl w1.heap.size _ (putTo L f k ++ [f]) x w2.heap.size 1 rfl (hown2.below (below_box w2 _)) rfl (BoxF.new w2 _ _) (by rw [List.length_append, List.length_singleton]; omega) (Nat.le_trans hb2.size (below_box w2 _).size) ?_; intro v3 w3 hown3 hgrow3; obtain ⟨A3, c3', rfl⟩ := hown3.slice; rw [List.length_append, List.length_append, List.length_singleton] at hown3))
          go_roundw
          case rel => exact ⟨k + 1, by omega, by go_num, by rw [HD2.out], by rw [HN.out]; exact hown3, (hb2.trans ((Below.refl _ _).alloc hb2.size _)).grown hgrow3 (Nat.le_trans hb2.size (below_box w2 _).size) fun j ej => (hown2.row ej).1⟩
          case measure => simp [intOf]; omega
    · obtain rfl : k = L.length := by omega
      cases hd : decide (aboveX L f.p < L.length) with
      | true =>
        have hn := put_done (of_decide_eq_true hd)
        have HN := Lib.hid hn; clear hn
        go_wp2_with fail
        go_ret
        have hr2 : FilesOwn w.heap.size wr (.slice Av (putTo L f L.length).length cv) (insX L (aboveX L f.p) f) := by rw [← HN.out]; exact hrow.lower HB1.out.size
        exact ⟨.slice Av (putTo L f L.length).length cv, rfl, by rw [HPUT.out]; exact hr2, HB1.out.trans (hbr.mono HB1.out.size)⟩
      | false =>
        have hn := put_last (L := L) (f := f) (by have := of_decide_eq_false hd; omega)
        have HN := Lib.hid hn; clear hn
        go_wp2_with (at_builtin; refine wpList_append_file rfl _ _ rfl w1.heap.size _ (putTo L f L.length) f wr.heap.size 1 rfl (hrow.below (below_box wr _)) rfl (BoxF.new wr _ _) (by omega) (Nat.le_trans hW (below_box wr _).size) ?_; intro v2 w2 hown2 hgrow2)
        go_ret
        rw [HN.out] at hown2
        exact ⟨v2, rfl, by rw [HPUT.out]; exact hown2.lower HB1.out.size, HB1.out.trans (((hbr.trans ((Below.refl _ _).alloc hW _)).grown hgrow2 (Nat.le_trans hW (below_box wr _).size) fun j ej => (hrow.row ej).1).mono HB1.out.size)⟩
end Go.Proofs.YtffhfllikamccaaGreatDoor
