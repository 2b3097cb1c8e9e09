/-
  The document's own done, unit, set.
-/
import Derived.Test.YtojkifcclgecoaaDkRefM
namespace Go.Proofs.Ytojkifcclgecoaa.Dk
open Go Go.RowKit Go.Shelf Go.Proofs

def DSt.v (s : DSt) : Value := .agg #[.int .u8 s.c, .int .i64 s.n]
/-- A slice is given that stands on what is fresh and on the slice (A0, c0) that shows b0. -/
def SlP (A0 : Option Addr) (c0 : Nat) (b0 b : Bs) (w : World) (e : Ending) (w' : World) : Prop := ∃ A c, e = .returned (.slice A b.length c) ∧ Below w.heap.size w w' ∧ ∀ W : World, (∀ k, w.heap.size ≤ k → k < w'.heap.size → W.heap[k]? = w'.heap[k]?) → SlAt W A0 c0 b0 → SlAt W A c b
set_option maxHeartbeats 4000000 in
theorem rdone_cut (w : World) (A : Option Addr) (c m n : Nat) (b : Bs) (h : SlAt w A c b) (hm : b.length = m) (hn : n ≤ b.length) :
    Calls Try.prog 80 #[.slice A m c, .agg #[.int .u8 0, .int .i64 (n : Int)]] w (SlP A c b (b.take n) w) := by
  have hcap := h.cap
  have hcm := h.c63
  have q1 : (n : Int) ≤ (c : Int) := by omega
  have q2 : (0 : Int) ≤ (n : Int) := by omega
  have hbw : Below w.heap.size w (w.alloc (.cells #[.int .u8 0, .int .i64 (n : Int)] 122)) := (Below.refl _ _).alloc (Nat.le_refl _) _
  have hl : (b.take n).length = n := by rw [List.length_take]; omega
  have HF := Lib.hid (show SlP A c b (b.take n) w (.returned (.slice A n c)) (w.alloc (.cells #[.int .u8 0, .int .i64 (n : Int)] 122)) from ⟨A, c, by rw [hl], hbw, fun _ _ hW => hW.take n⟩)
  have HN := Lib.hid (fun (e : A = none) => h.nil e)
  clear h hbw hl
  cases A with
  | none =>
    obtain rfl := HN.out rfl
    obtain rfl : n = 0 := by omega
    go_enter Try.func80, Try.ntmps80
    go_wp2_with fail
    go_ret
    exact HF.out
  | some ad =>
    go_enter Try.func80, Try.ntmps80
    go_wp2_with fail
    go_ret
    exact HF.out
set_option maxRecDepth 100000 in
set_option maxHeartbeats 8000000 in
theorem rdone_byte (w : World) (A : Option Addr) (c m : Nat) (b : Bs) (x : UInt8) (h : SlAt w A c b) (hm : b.length = m) (hl : b.length ≤ 10000000) :
    Calls Try.prog 80 #[.slice A m c, .agg #[.int .u8 (x.toNat : Int), .int .i64 (-1)]] w (SlP A c b (b ++ [x]) w) := by
  obtain ⟨V, hV⟩ : ∃ V, w.alloc (.cells #[.int .u8 (x.toNat : Int), .int .i64 (-1)] 122) = V := ⟨_, rfl⟩
  have hbV : Below w.heap.size w (w.alloc (.cells #[.int .u8 (x.toNat : Int), .int .i64 (-1)] 122)) := (Below.refl _ _).alloc (Nat.le_refl _) _
  have hz := heap_alloc_new w (.cells #[.int .u8 (x.toNat : Int), .int .i64 (-1)] 122)
  rw [hV] at hbV hz
  have z0 : V.cell? ⟨w.heap.size, 0, none⟩ = some (.int .u8 (x.toNat : Int)) := cell_of_row V _ 0 _ _ _ hz
  have z1 : V.cell? ⟨w.heap.size, 1, none⟩ = some (.int .i64 (-1)) := cell_of_row V _ 1 _ _ _ hz
  have hlt : w.heap.size < V.heap.size := (Array.getElem?_eq_some_iff.1 hz).1
  obtain ⟨v1, w1, hr1, ho1, hg1, _⟩ := run_appB V V.heap.size 29 29 29 u_bytes u_bytes (OB.nil _ _) (h.below hbV) (by simp; omega) (Nat.le_refl _)
  rw [List.nil_append] at ho1
  obtain ⟨A1, k1, e1, _⟩ := OB.sl ho1
  have hb1 : Below V.heap.size V w1 := (Below.refl _ _).grown hg1 (Nat.le_refl _) (fun k e => by cases e)
  have y0 : w1.cell? ⟨w.heap.size, 0, none⟩ = some (.int .u8 (x.toNat : Int)) := (hb1.cell (p := ⟨w.heap.size, 0, none⟩) hlt).trans z0
  have hsl : SlAt (w1.alloc (.cells #[.int .u8 (x.toNat : Int)] 5)) (some ⟨w1.heap.size, 0, none⟩) 1 [x] := ⟨BytesAt.of_cells fun i z hx => by
    have hi : i < 1 := (List.getElem?_eq_some_iff.1 hx).1
    obtain rfl : i = 0 := by omega
    cases hx
    exact cell_of_row _ _ 0 _ _ _ (heap_alloc_new w1 _), Nat.le_refl 1, by unfold maxLen; omega, fun e => by cases e⟩
  have hb2 : Below w1.heap.size w1 (w1.alloc (.cells #[.int .u8 (x.toNat : Int)] 5)) := (Below.refl _ _).alloc (Nat.le_refl _) _
  have ho1' : OB V.heap.size (w1.alloc (.cells #[.int .u8 (x.toNat : Int)] 5)) v1 b := row_keep ho1 fun q _ hl => hb2.block q hl
  obtain ⟨v2, w2, hr2, ho2, hg2, _⟩ := run_appB (w1.alloc (.cells #[.int .u8 (x.toNat : Int)] 5)) V.heap.size 29 29 29 u_bytes u_bytes ho1' hsl (by simp; omega) (Nat.le_trans hb1.size hb2.size)
  obtain ⟨A2, k2, e2, hs2, _⟩ := OB.sl ho2
  have hb3 : Below w.heap.size w w2 := (hbV.trans (hb1.mono hbV.size)).trans ((hb2.mono (Nat.le_trans hbV.size hb1.size))) |>.grown hg2 (Nat.le_trans hbV.size (Nat.le_trans hb1.size hb2.size)) (fun k e => by have := (row_blk ho1' e).1; have := hbV.size; omega)
  have hln : (b ++ [x]).length = m + 1 := by rw [List.length_append, hm]; rfl
  rw [hm] at hr1 e1
  rw [hln] at e2
  subst e1 e2
  have HF := Lib.hid (show SlP A c b (b ++ [x]) w (.returned (.slice A2 (m + 1) k2)) w2 from ⟨A2, k2, by rw [hln], hb3, fun W hW _ => by
    have hoW := row_keep (w' := W) ho2 fun q e hl => hW q (by have := (row_blk ho2 e).1; omega) hl
    obtain ⟨A', k', e', hs', _⟩ := OB.sl hoW
    rw [hln] at e'
    cases e'
    exact hs'⟩)
  have HR1 := Lib.hid hr1
  have HR2 := Lib.hid hr2
  clear h hbV hz z0 z1 hlt hr1 ho1 hg1 hb1 hsl hb2 ho1' hr2 ho2 hg2 hs2 hb3 hln
  subst hV
  go_enter Try.func80, Try.ntmps80
  go_wp2_with (first | (at_builtin; refine Lib.wpList_append_run _ rfl _ _ _ _ rfl _ _ rfl rfl _ _ HR1.out ?_; clear HR1) | (at_builtin; refine Lib.wpList_append_run _ rfl _ _ _ _ rfl _ _ rfl rfl _ _ HR2.out ?_; clear HR2))
  go_ret
  exact HF.out
theorem rdone_any (w : World) (A : Option Addr) (c m : Nat) (b : Bs) (s : DSt) (h : SlAt w A c b) (hm : b.length = m) (hl : b.length ≤ 10000000) (hok : okS b [s]) :
    Calls Try.prog 80 #[.slice A m c, s.v] w (SlP A c b (s.on b) w) := by
  cases s with
  | byte x => exact rdone_byte w A c m b x h hm hl
  | cut n => exact rdone_cut w A c m n b h hm hok.1

/-- unit: one of the power. -/
def unitD (d : DDk) : DDk := match d.pw with | none => d | some 0 => { d with dead := true } | some (k + 1) => { d with pw := some k }
def unitOk (d : DDk) : Bool := match d.pw with | none => true | some 0 => false | some (_ + 1) => true
def UnitP (w : World) (t : RT) (d : DDk) (e : Ending) (w' : World) : Prop := ∃ q : Int, e = .returned (.tuple #[RT.v ⟨t.A, t.c, t.R, q⟩ (unitD d), .bool (unitOk d)]) ∧ (∀ k, (unitD d).pw = some k → q = k) ∧ Below w.heap.size w w'
set_option maxRecDepth 100000 in
set_option maxHeartbeats 8000000 in
theorem runit_any (w : World) (t : RT) (d : DDk) (h : RefAt w t d) (hk : ∀ k, d.pw = some k → k ≤ 1000000000) (hdead : d.dead = false) :
    Calls Try.prog 78 #[RT.v t d] w (UnitP w t d) := by
  have HH := Lib.hid h
  unfold RT.v
  rw [hdead]
  cases hp : d.pw with
  | none =>
    have e1 : unitD d = d := by unfold unitD; rw [hp]
    have e2 : unitOk d = true := by unfold unitOk; rw [hp]
    show Calls _ _ #[.agg #[_, _, .bool false, _, _]] _ _
    have HP := Lib.hid (fun (w' : World) (hb : Below w.heap.size w w') => show UnitP w t d (.returned (.tuple #[.agg #[.slice t.A t.R.length t.c, .int .i64 (d.room : Int), .bool false, .int .i64 t.q, .bool false], .bool true])) w' from ⟨t.q, by rw [e1, e2]; unfold RT.v; rw [hp, hdead]; rfl, by rw [e1]; exact HH.out.q, hb⟩)
    clear h hk e1 e2
    go_enter Try.func78, Try.ntmps78
    go_wp2_with fail
    go_returns
    exact HP.out _ (((Below.refl _ _).alloc (Nat.le_refl _) _).alloc (by simp) _)
  | some k =>
    have hk' := hk k hp
    have hq : t.q = (k : Int) := h.q k hp
    show Calls _ _ #[.agg #[_, _, .bool true, _, _]] _ _
    rw [hq]
    cases k with
    | zero =>
      have e1 : unitD d = { d with dead := true } := by unfold unitD; rw [hp]
      have e2 : unitOk d = false := by unfold unitOk; rw [hp]
      have HP := Lib.hid (fun (w' : World) (hb : Below w.heap.size w w') => show UnitP w t d (.returned (.tuple #[.agg #[.slice t.A t.R.length t.c, .int .i64 (d.room : Int), .bool true, .int .i64 0, .bool true], .bool false])) w' from ⟨t.q, by rw [e1, e2]; unfold RT.v; rw [hp, hq]; rfl, by rw [e1]; exact HH.out.q, hb⟩)
      show Calls _ _ #[.agg #[_, _, _, .int .i64 0, _]] _ _
      clear h hk e1 e2 hk' hq
      go_enter Try.func78, Try.ntmps78
      go_wp2_with fail
      go_returns
      exact HP.out _ (((Below.refl _ _).alloc (Nat.le_refl _) _).alloc (by simp) _)
    | succ k =>
      have e1 : unitD d = { d with pw := some k } := by unfold unitD; rw [hp]
      have e2 : unitOk d = true := by unfold unitOk; rw [hp]
      have HP := Lib.hid (fun (w' : World) (hb : Below w.heap.size w w') => show UnitP w t d (.returned (.tuple #[.agg #[.slice t.A t.R.length t.c, .int .i64 (d.room : Int), .bool true, .int .i64 (k : Int), .bool false], .bool true])) w' from ⟨(k : Int), by rw [e1, e2]; unfold RT.v; rw [hdead]; rfl, by rw [e1]; exact fun q e => (by cases e; rfl), hb⟩)
      have q1 : (((k + 1 : Nat) : Int) == 0) = false := by simp; omega
      have q2 : ((k + 1 : Nat) : Int) - 1 = (k : Int) := by omega
      have q3 : (0 : Int) ≤ ((k + 1 : Nat) : Int) := by omega
      have q4 : ((k + 1 : Nat) : Int) ≤ 1000000000 := by omega
      generalize ((k + 1 : Nat) : Int) = K at *
      clear h hk e1 e2 hk' hq
      go_enter Try.func78, Try.ntmps78
      go_wp2_with fail
      go_returns
      exact HP.out _ (((Below.refl _ _).alloc (Nat.le_refl _) _).alloc (by simp) _)
end Go.Proofs.Ytojkifcclgecoaa.Dk
