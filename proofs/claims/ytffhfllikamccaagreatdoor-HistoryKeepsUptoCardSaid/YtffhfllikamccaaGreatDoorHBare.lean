/-
  The program's bare, and own, of layer 3 (history).
-/
import Derived.Test.YtffhfllikamccaaGreatDoorHProg
import Derived.Test.YtffhfllikamccaaGreatDoorHPlain
import Derived.Test.YtffhfllikamccaaGreatDoorTRefA
namespace Go.Proofs.YtffhfllikamccaaGreatDoor
open Go Go.RowKit Go.Shelf Go.Proofs

def FX.bare (x : FX) : FX := ⟨x.p, none, 0, []⟩
theorem bareX_take {l : List FX} {k : Nat} {x : FX} (hx : l[k]? = some x) : bareX (l.take (k + 1)) = bareX (l.take k) ++ [x.bare] := by
  unfold bareX
  rw [List.take_add_one, hx, List.map_append]; rfl

set_option maxRecDepth 100000 in
set_option maxHeartbeats 4000000 in
theorem hbare_any (l : List FX) (A : Option Addr) (c : Nat) (w : World) (h : TreeAt w A c l) (hl : l.length ≤ 100000) :
    Calls Tryz.prog 28 #[.slice A l.length c] w fun e w' => ∃ v', e = .returned v' ∧ FilesOwn w.heap.size w' v' (bareX l) ∧ Below w.heap.size w w' := by
  have HT := Lib.hid h; clear h
  go_enter Tryz.func28, Tryz.ntmps28
  go_wp2_with fail
  go_loopw [3, 8] (fun v i wr => ∃ (k : Nat), k ≤ l.length ∧ i = .int .i64 k ∧ FilesOwn w.heap.size wr v (bareX (l.take k)) ∧ Below w.heap.size w wr) (fun _ i _ => l.length - (intOf i).toNat)
  case atStart => exact ⟨0, Nat.zero_le _, rfl, World.ownsRow_nil _ _ _ _, Below.refl _ _⟩
  case round =>
    obtain ⟨k, hk, rfl, hrow, hbr⟩ := hrel
    by_cases h1 : k < l.length
    · obtain ⟨x, hx⟩ : ∃ x, l[k]? = some x := ⟨_, List.getElem?_eq_getElem h1⟩
      obtain ⟨b, o, hA, hr⟩ := HT.out.row (by omega)
      subst hA
      obtain ⟨c1, c2⟩ := (hr.keep fun hb => hbr.block _ hb) k x hx
      have k1 : (k : Int) < (l.length : Int) := by omega
      have hsn := bareX_take hx
      have HSN := Lib.hid hsn; clear hsn
      have HR := Lib.hid hrow; clear hrow
      have hlen : (bareX (l.take k)).length ≤ 100000 := by rw [bareX_length, List.length_take]; omega
      have hW : w.heap.size ≤ wr.heap.size := hbr.size
      clear hr hx
      have hb1 := below_box wr (.cells #[.string x.p, .slice x.A x.b.length x.c] 65)
      have hs1 : (wr.alloc (.cells #[.string x.p, .slice x.A x.b.length x.c] 65)).heap.size = wr.heap.size + 1 := by simp
      have hb2 := below_box (wr.alloc (.cells #[.string x.p, .slice x.A x.b.length x.c] 65)) (.cells #[.string x.bare.p, .slice x.bare.A x.bare.b.length x.bare.c] 65)
      have hbx := BoxF.new (wr.alloc (.cells #[.string x.p, .slice x.A x.b.length x.c] 65)) x.bare 65
      rw [hs1] at hbx
      have hb12 := hb1.trans (hb2.mono hb1.size)
      have HB := Lib.hid (hbr.trans (hb12.mono hbr.size))
      have HBX := Lib.hid hbx
      have HW2 := Lib.hid (Nat.le_trans hW hb12.size)
      have HR2 := Lib.hid (HR.out.below hb12)
      clear hb1 hb2 hbx hb12 hs1
      go_wp2_with (at_builtin; refine wpList_append_file rfl _ _ rfl w.heap.size _ (bareX (l.take k)) x.bare (wr.heap.size + 1) 1 rfl HR2.out rfl HBX.out hlen HW2.out ?_; intro v' w' hown' hgrow)
      go_roundw
      case rel => exact ⟨k + 1, by omega, by go_num, by rw [HSN.out]; exact hown', HB.out.grown hgrow HB.out.size fun j ej => (HR2.out.row ej).1⟩
      case measure => simp [intOf]; omega
    · obtain rfl : k = l.length := by omega
      rw [List.take_length] at *
      go_wp2_with fail
      go_ret
      exact ⟨_, rfl, hrow, hbr⟩

theorem delta_cells : Tryz.prog.cellsOf 62 = 3 := by kernel_rfl
set_option maxRecDepth 100000 in
set_option maxHeartbeats 4000000 in
theorem hown_any (d : DX) (w : World) (h : BytesAt w d.A d.b) (hl : d.b.length ≤ 1000000) :
    Calls Tryz.prog 41 #[.agg #[.int .i64 d.k, .string d.p, .slice d.A d.b.length d.c]] w fun e w' =>
      ∃ (A' : Option Addr) (c' : Nat), e = .returned (.agg #[.int .i64 d.k, .string d.p, .slice A' d.b.length c']) ∧ BytesOwn w' A' d.b ∧ Below w.heap.size w w' := by
  go_enter Tryz.func41, Tryz.ntmps41
  go_wp2_with fail
  obtain ⟨W1, hW1⟩ : ∃ W, w.alloc (.cells #[.int .i64 d.k, .string d.p, .slice d.A d.b.length d.c] 62) = W := ⟨_, rfl⟩
  have g1 := heap_alloc_new w (.cells #[.int .i64 d.k, .string d.p, .slice d.A d.b.length d.c] 62)
  have s1 : W1.heap.size = w.heap.size + 1 := by rw [← hW1]; simp
  have b1 := below_box w (.cells #[.int .i64 d.k, .string d.p, .slice d.A d.b.length d.c] 62)
  rw [hW1] at g1 b1 ⊢
  obtain ⟨W2, hW2⟩ : ∃ W, W1.alloc (.cells #[.int .i64 0, .string ⟨#[]⟩, .slice none 0 0] 62) = W := ⟨_, rfl⟩
  have g2 := heap_alloc_new W1 (.cells #[.int .i64 0, .string ⟨#[]⟩, .slice none 0 0] 62)
  have b2 := below_box W1 (.cells #[.int .i64 0, .string ⟨#[]⟩, .slice none 0 0] 62)
  have s2 : W2.heap.size = w.heap.size + 2 := by rw [← hW2]; simp [s1]
  rw [hW2] at g2 b2 ⊢
  rw [s1] at g2
  have g1 : W2.heap[w.heap.size]? = _ := (b2.block w.heap.size (by omega)).trans g1
  have b12 := b1.trans (b2.mono b1.size)
  refine (bclone_any d.A d.c d.b W2 (h.below b12) hl).mono ?_
  rintro e w3 ⟨A', c', rfl, hbo, hb3⟩
  have g1 : w3.heap[w.heap.size]? = _ := (hb3.block w.heap.size (by omega)).trans g1
  have g2 : w3.heap[w.heap.size + 1]? = _ := (hb3.block (w.heap.size + 1) (by omega)).trans g2
  have hb := b12.trans (hb3.mono b12.size)
  clear b1 b2 b12 hb3 s1 s2 hW1 hW2 h
  have c0 := cell_of_row w3 w.heap.size 0 _ _ _ g1
  have c1 := cell_of_row w3 w.heap.size 1 _ _ _ g1
  have c2 := cell_of_row w3 w.heap.size 2 _ _ _ g1
  have f2 : w3.frozen? ⟨w.heap.size, 2, none⟩ = false := by simp [World.frozen?, g1]
  have d0 := cell_of_row w3 (w.heap.size + 1) 0 _ _ _ g2
  have d1 := cell_of_row w3 (w.heap.size + 1) 1 _ _ _ g2
  have d2 := cell_of_row w3 (w.heap.size + 1) 2 _ _ _ g2
  have e0 : w3.frozen? ⟨w.heap.size + 1, 0, none⟩ = false := by simp [World.frozen?, g2]
  have e1 : w3.frozen? ⟨w.heap.size + 1, 1, none⟩ = false := by simp [World.frozen?, g2]
  have e2 : w3.frozen? ⟨w.heap.size + 1, 2, none⟩ = false := by simp [World.frozen?, g2]
  simp at c0 c1 c2 d0 d1 d2
  have G1 := Lib.hid g1
  have G2 := Lib.hid g2
  clear g1 g2
  go_wp2_with fail
  have hk : ∀ (W : World) (g o : Nat) (cur : Array Value) (u : Value), W.heap[g]? = some (Obj.cells cur 62 (0, 0)) → BytesOwn W A' d.b → BytesOwn (W.setCell ⟨g, o, none⟩ u) A' d.b := fun W g o cur u hg hb' => hb'.keep fun q cur' hq => Below.heap_setCell _ _ _ _ (fun e => by
      have e : q = g := e
      subst e
      rw [hg] at hq; cases hq)
  have q1 : (w3.setCell ⟨w.heap.size, 2, none⟩ (.slice A' d.b.length c')).heap[w.heap.size + 1]? = _ := (Below.heap_setCell _ _ _ _ (Nat.succ_ne_self _)).trans G2.out
  have b1 := hk w3 w.heap.size 2 _ (.slice A' d.b.length c') G1.out hbo
  rw [setCell_eq_setRow _ _ _ _ _ _ _ q1]
  have q2 := setRow_heap _ _ _ (#[Value.int .i64 0, .string ⟨#[]⟩, .slice none 0 0].setIfInBounds 0 (.int .i64 d.k)) _ _ q1
  rw [setCell_eq_setRow _ _ _ _ _ _ _ q2]
  have q3 := setRow_heap _ _ _ ((#[Value.int .i64 0, .string ⟨#[]⟩, .slice none 0 0].setIfInBounds 0 (.int .i64 d.k)).setIfInBounds 1 (.string d.p)) _ _ q2
  rw [setCell_eq_setRow _ _ _ _ _ _ _ q3]
  have q4 := setRow_heap _ _ _ (((#[Value.int .i64 0, .string ⟨#[]⟩, .slice none 0 0].setIfInBounds 0 (.int .i64 d.k)).setIfInBounds 1 (.string d.p)).setIfInBounds 2 (.slice A' d.b.length c')) _ _ q3
  have hbb := hb.setCell (p := ⟨w.heap.size, 2, none⟩) (Nat.le_refl _) (.slice A' d.b.length c')
  simp only [setRow_setRow] at q4 ⊢
  have hbz : Below w.heap.size w ((w3.setCell ⟨w.heap.size, 2, none⟩ (.slice A' d.b.length c')).setRow (w.heap.size + 1) (((#[Value.int .i64 0, .string ⟨#[]⟩, .slice none 0 0].setIfInBounds 0 (.int .i64 d.k)).setIfInBounds 1 (.string d.p)).setIfInBounds 2 (.slice A' d.b.length c'))) :=
    hbb.trans ⟨rfl, rfl, rfl, by simp, fun k hk => setRow_other _ _ _ _ (by omega)⟩
  have b2 : BytesOwn ((w3.setCell ⟨w.heap.size, 2, none⟩ (.slice A' d.b.length c')).setRow (w.heap.size + 1) (((#[Value.int .i64 0, .string ⟨#[]⟩, .slice none 0 0].setIfInBounds 0 (.int .i64 d.k)).setIfInBounds 1 (.string d.p)).setIfInBounds 2 (.slice A' d.b.length c'))) A' d.b :=
    b1.keep fun q cur' hq => setRow_other _ _ _ _ (fun e => by subst e; rw [q1] at hq; cases hq)
  refine bodyPost_ret (results_cell_row rfl _ _ (w.heap.size + 1) 62 _ (0, 0) _ rfl q4 Tryz.underlying62 rfl (by kernel_rfl)) rfl ⟨A', c', rfl, b2, hbz⟩
end Go.Proofs.YtffhfllikamccaaGreatDoor
