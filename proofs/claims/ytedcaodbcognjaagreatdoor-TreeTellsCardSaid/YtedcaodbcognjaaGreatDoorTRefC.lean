/-
  The contracts of the document's own answers of layer 2: Get, Select, SameTexts.
-/
import Derived.Test.YtedcaodbcognjaaGreatDoorTRefA
import Derived.Test.YtedcaodbcognjaaGreatDoorTSelect
import Derived.Test.YtedcaodbcognjaaGreatDoorRefMatch
import Derived.BigRegion
namespace Go.Proofs.YtedcaodbcognjaaGreatDoor
open Go Go.RowKit Go.Shelf Go.Proofs
attribute [local go_sem] Oper.semAt_some

def RefGetPost (w : World) (l : List FX) (s : ByteArray) (e : Ending) (w' : World) : Prop :=
  (getT (flsX l) s.data.toList = none ∧ e = .returned (.tuple #[.slice none 0 0, .bool false]) ∧ Below w.heap.size w w') ∨
  ∃ x, x ∈ l ∧ getT (flsX l) s.data.toList = some x.b ∧ e = .returned (.tuple #[.slice x.A x.b.length x.c, .bool true]) ∧ Below w.heap.size w w'

set_option maxHeartbeats 1000000 in
theorem refget_any (l : List FX) (A : Option Addr) (c : Nat) (s : ByteArray) (w : World) (h : TreeAt w A c l) (hl : l.length ≤ 100000) :
    Calls Tryz.prog 7 #[.slice A l.length c, .string s] w (RefGetPost w l s) := by
  have HF := Lib.hid (reffind_any l A c s w h hl)
  rcases place_get l s with ⟨h1, h2, _⟩ | ⟨k, x, h1, h2, h3, _⟩
  · rw [h1] at HF
    have HG := Lib.hid h2
    clear h1 h2 h
    go_enter Tryz.func7, Tryz.ntmps7
    go_wp2_with fail
    refine HF.out.mono ?_
    rintro e w1 ⟨rfl, hb1⟩
    go_wp2_with fail
    go_ret2
    exact .inl ⟨HG.out, rfl, hb1⟩
  · rw [h1] at HF
    have hkl := (List.getElem?_eq_some_iff.1 h2).1
    obtain ⟨g, o, rfl, hr⟩ := h.row (by omega)
    have hmem := List.mem_of_getElem? h2
    have c2 := (hr k x h2).2
    have hgl : g < w.heap.size := World.block_lt_of_cell? w (a := ⟨g, o + k * 2 + 1, none⟩) c2
    have k0 : ¬ (k : Int) < 0 := by omega
    have k1 : (k : Int) < (l.length : Int) := by omega
    have HG := Lib.hid h3
    have HM := Lib.hid hmem
    clear h1 h2 h3 hr h hmem
    go_enter Tryz.func7, Tryz.ntmps7
    go_wp2_with fail
    refine HF.out.mono ?_
    rintro e w1 ⟨rfl, hb1⟩
    have e2 : w1.cell? ⟨g, o + k * 2 + 1, none⟩ = some (.slice x.A x.b.length x.c) := (hb1.cell (p := ⟨g, o + k * 2 + 1, none⟩) hgl).trans c2
    clear c2
    go_wp2_with fail
    go_ret2
    exact .inr ⟨x, HM.out, HG.out, rfl, hb1⟩

/-- One path more in a row of the call's own. -/
theorem wpList_append_path {ops : Array Oper} {rest : List Oper} {o : Oper} {a : Act} {w : World} {Q : Exit → Act → World → Prop} (hgd : o.guard = none) (s y : Operand)
    (ho : o.op = .call { callee := .builtin .append, args := #[s, y], argTypes := #[36, 36] })
    (base : Nat) (v : Value) (l : List FX) (x : FX) (g c : Nat) (hs : a.eval s = v) (hown : StrsOwn base w v l) (hx : a.eval y = .slice (some ⟨g, 0, none⟩) 1 c) (hc : w.cell? ⟨g, 0, none⟩ = some (.string x.p)) (hl : l.length ≤ 100000) (hbase : base ≤ w.heap.size)
    (h : ∀ v' w', StrsOwn base w' v' (l ++ [x]) → w.grownBy w' v.ownBlock → wpList Tryz.prog ops Q rest (a.put o.dst v') w') : wpList Tryz.prog ops Q (o :: rest) a w := by
  obtain ⟨i0, hi, hz0, hz1, hz2⟩ := info_parts string_info
  refine wpList_append_own w hgd s y 36 ho base 9 i0 (.string ⟨#[]⟩) 1 16 Tryz.underlying36 hi hz0 hz1 hz2 rfl (by decide) v l.length (pathVs l) hs hown ⟨g, 0, none⟩ 1 c [.string x.p] hx rfl ?_ ?_ (by unfold maxLen; omega) (by omega) hbase fun v' w' h1 h2 _ => h v' w' ?_ h2
  · intro j u hu
    rw [Go.WideShapes.add_plain, Nat.zero_add]
    match j, hu with
    | 0, hu => obtain rfl : Value.string x.p = u := by simpa using hu
               exact hc
    | j + 1, hu => simp at hu
  · intro u hu
    obtain rfl := List.mem_singleton.1 hu
    rfl
  · show World.ownsRow _ _ _ _ _ _ _
    unfold pathVs
    rw [List.length_append, List.map_append]; exact h1
theorem StrsOwn.kept {base : Nat} {w w' : World} {v : Value} {l : List FX} (h : StrsOwn base w v l) (hb : Below w.heap.size w w') : StrsOwn base w' v l := World.ownsRow.kept h (grownN hb none) (by cases v.ownBlock <;> simp)
theorem StrsOwn.slice {base : Nat} {w : World} {v : Value} {l : List FX} (h : StrsOwn base w v l) : ∃ A c, v = .slice A l.length c := by
  have hown : w.ownsRow base 9 1 v l.length (pathVs l) := h
  rcases hown.2 with ⟨rfl, h0⟩ | ⟨g, cap, cur, rfl, _⟩
  · exact ⟨none, 0, by rw [h0]⟩
  · exact ⟨_, _, rfl⟩

set_option maxRecDepth 100000 in
set_option maxHeartbeats 4000000 in
theorem refselect_any (l : List FX) (A : Option Addr) (c : Nat) (g : ByteArray) (w : World) (h : TreeAt w A c l) (hs : SmallX l) (hg : g.size ≤ 1000000) :
    Calls Tryz.prog 18 #[.slice A l.length c, .string g] w (SelPost w (selX l g)) := by
  have hl := hs.1
  have HT := Lib.hid h; clear h
  have HS := Lib.hid hs; clear hs
  go_enter Tryz.func18, Tryz.ntmps18
  go_wp2_with fail
  go_loopw [5, 6] (fun v i wr => ∃ (k : Nat), k ≤ l.length ∧ i = .int .i64 k ∧ StrsOwn w.heap.size wr v (selX (l.take k) g) ∧ Below w.heap.size w wr) (fun _ i _ => l.length - (intOf i).toNat)
  case atStart => exact ⟨0, Nat.zero_le _, rfl, World.ownsRow_nil _ _ _ _, Below.refl _ _⟩
  case round =>
    obtain ⟨k, hk, rfl, hrow, hbr⟩ := hrel
    obtain ⟨Av, cv, rfl⟩ := hrow.slice
    by_cases h1 : k < l.length
    · obtain ⟨x, hx⟩ : ∃ x, l[k]? = some x := ⟨_, List.getElem?_eq_getElem h1⟩
      obtain ⟨b, o, hA, hr⟩ := HT.out.row (by omega)
      subst hA
      have hr2 := hr.below hbr
      obtain ⟨c1, _⟩ := hr2 k x hx
      have hbl : b < wr.heap.size := World.block_lt_of_cell? wr (a := ⟨b, o + k * 2, none⟩) c1
      have hxs := (HS.out.2 x (List.mem_of_getElem? hx)).1
      have hsn := selX_snoc g hx
      have hlen : (selX (l.take k) g).length ≤ 100000 := Nat.le_trans (selX_le _ _) (Nat.le_trans (by rw [List.length_take]; omega) hl)
      have k1 : (k : Int) < (l.length : Int) := by omega
      have HM := Lib.hid (refmatch_any g x.p wr hg hxs)
      have HX := Lib.hid hx; clear hx
      have HSN := Lib.hid hsn; clear hsn
      clear hr hr2
      go_wp2_with fail
      refine HM.out.mono ?_
      rintro e w2 ⟨rfl, hq2⟩
      have c1 := (hq2.cell (p := ⟨b, o + k * 2, none⟩) hbl).trans c1
      have hro := hrow.kept hq2
      have hbw := hbr.trans (hq2.mono hbr.size)
      have hW := hbw.size
      have HRO := Lib.hid hro; clear hro hrow
      clear hq2
      cases hq : matchB g.data.toList x.p.data.toList with
      | true =>
        have hn : selX (l.take (k + 1)) g = selX (l.take k) g ++ [x] := by rw [HSN.out, if_pos hq]
        have HN := Lib.hid hn; clear hn
        go_wp2_with (at_builtin; refine wpList_append_path rfl _ _ rfl w.heap.size _ (selX (l.take k) g) x w2.heap.size 1 rfl (HRO.out.kept (below_box _ _)) rfl (cell_of_row _ _ 0 _ _ _ (heap_alloc_new _ _)) hlen (Nat.le_trans hW (below_box _ _).size) ?_; intro v' w' hown' hgrow; obtain ⟨A', c', rfl⟩ := hown'.slice; rw [List.length_append, List.length_singleton] at hown')
        go_roundw
        case rel => exact ⟨k + 1, by omega, by go_num, by rw [HN.out]; exact hown', (hbw.trans ((Below.refl _ _).alloc hW _)).grown hgrow (Nat.le_trans hW (below_box _ _).size) fun j ej => (row_ge HRO.out ej).1⟩
        case measure => simp [intOf]; omega
      | false =>
        have hn : selX (l.take (k + 1)) g = selX (l.take k) g := by rw [HSN.out, hq, if_neg (by decide), List.append_nil]
        have HN := Lib.hid hn; clear hn
        go_wp2_with fail
        go_roundw
        case rel => exact ⟨k + 1, by omega, by go_num, by rw [HN.out]; exact HRO.out, hbw⟩
        case measure => simp [intOf]; omega
    · obtain rfl : k = l.length := by omega
      have hx := selX_all l g
      rw [hx] at hrow
      rw [hx]
      clear hx
      go_wp2_with fail
      go_ret
      exact ⟨_, rfl, hrow, hbr⟩

set_option maxHeartbeats 4000000 in
theorem refsametexts_same (l : List FX) (A B : Option Addr) (c d : Nat) (w : World) (ha : PathsAt w A l) (hb : PathsAt w B l) (hl : l.length ≤ 100000) :
    Calls Tryz.prog 16 #[.slice A l.length c, .slice B l.length d] w fun e w' => e = .returned (.bool true) ∧ Below w.heap.size w w' := by
  have HA := Lib.hid ha; clear ha
  have HB := Lib.hid hb; clear hb
  go_enter Tryz.func16, Tryz.ntmps16
  go_wp2_with fail
  go_loopw [5] (fun i wr => ∃ (k : Nat), k ≤ l.length ∧ i = .int .i64 k ∧ Below w.heap.size w wr) (fun i _ => l.length - (intOf i).toNat)
  case atStart => exact ⟨0, Nat.zero_le _, rfl, Below.refl _ _⟩
  case round =>
    obtain ⟨k, hk, rfl, hbr⟩ := hrel
    by_cases h1 : k < l.length
    · obtain ⟨x, hx⟩ : ∃ x, l[k]? = some x := ⟨_, List.getElem?_eq_getElem h1⟩
      obtain ⟨g, hA, hr⟩ := (HA.out.below hbr) (by omega)
      subst hA
      obtain ⟨g', hB, hr'⟩ := (HB.out.below hbr) (by omega)
      subst hB
      have c1 := hr k x hx
      have c2 := hr' k x hx
      have k1 : (k : Int) < (l.length : Int) := by omega
      have wk : IntKind.i64.wrap (k : Int) = (k : Int) := IntWalk.i64_in _ (by omega)
      have hxx : (x.p.toList == x.p.toList) = true := beq_self_eq_true _
      clear hr hr' hx
      go_wp2_with fail
      go_region
      go_wp2_with fail
      go_roundw
      case rel => exact ⟨k + 1, by omega, by go_num, hbr.drew⟩
      case measure => simp [intOf]; omega
    · obtain rfl : k = l.length := by omega
      go_wp2_with fail
      go_ret
      exact ⟨rfl, hbr⟩
end Go.Proofs.YtedcaodbcognjaaGreatDoor
