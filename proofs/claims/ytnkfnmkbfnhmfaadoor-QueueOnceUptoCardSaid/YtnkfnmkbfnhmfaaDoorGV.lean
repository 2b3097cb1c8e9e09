/-
  An argument that is rows of changes, one behind the other, opened. · What the laws of layer 3 call: known, Long, small. · What the laws of layer 3 call: small. · How long rows of changes are is at most their bulk.
-/
import Derived.Test.YtnkfnmkbfnhmfaaDoorTOpenD
import Derived.Test.YtnkfnmkbfnhmfaaDoorGCommit
import Derived.Test.YtnkfnmkbfnhmfaaDoorShelf
import Derived.Lib.SlBytesConst
import Derived.Test.YtnkfnmkbfnhmfaaDoorRows
namespace Go.Proofs.YtnkfnmkbfnhmfaaDoor
open Go Go.RowKit Go.Shelf Go.Proofs Go.ChangeShapes Go.WideShapes Go.Deep

/-- A row of changes in memory: where it lies, its room, the changes. -/
structure LX where
  A : Option Addr
  c : Nat
  d : List DX
instance : Inhabited LX := ⟨⟨none, 0, []⟩⟩
def LX.v (x : LX) : Value := .slice x.A x.d.length x.c
/-- The slice value .slice A n c holds the rows of changes l. -/
structure LRowAt (w : World) (A : Option Addr) (c : Nat) (l : List LX) : Prop where
  cap : l.length ≤ c
  capm : c ≤ maxLen
  row : 0 < l.length → ∃ g o, A = some ⟨g, o, none⟩ ∧ ∀ i x, l[i]? = some x → w.cell? ⟨g, o + i, none⟩ = some (.slice x.A x.d.length x.c)
  dels : ∀ x ∈ l, DelsAt w x.A x.c x.d
  big : ∀ x ∈ l, BigD x.d
theorem LRowAt.below {w w' : World} {A : Option Addr} {c : Nat} {l : List LX} (h : LRowAt w A c l) (hb : Below w.heap.size w w') : LRowAt w' A c l := by
  refine ⟨h.cap, h.capm, fun hn => ?_, fun x hx => (h.dels x hx).below hb, h.big⟩
  obtain ⟨g, o, e, hr⟩ := h.row hn
  refine ⟨g, o, e, fun i x hx => ?_⟩
  have h1 := hr i x hx
  exact (hb.cell (p := ⟨g, o + i, none⟩) (World.block_lt_of_cell? w (a := ⟨g, o + i, none⟩) h1)).trans h1
theorem LRowAt.nil (w : World) (A : Option Addr) (c : Nat) (hc : c ≤ maxLen) : LRowAt w A c [] := ⟨Nat.zero_le _, hc, fun h => absurd h (by simp), fun x hx => (by cases hx), fun x hx => (by cases hx)⟩

section
variable {H : Type} {enc : TypeId × Value → H} {P : Program} {w : World} {base : Nat} {spare : Nat → Bool} {held : Bool}

theorem open_deltasB {t e u : TypeId} {f0 f1 f2 : Field} (ht : P.underlying t = some (.slice e)) (T : DeltaTy P e u f0 f1 f2) {fuel : Nat} {cs : List Value} {x : DataW H × List MemPlace}
    (hf : DataW.trod enc P w base spare held fuel t cs = some x) (hz : Sized P t x.1) : ∃ A c l, cs = [.slice A l.length c] ∧ DelsAt w A c l ∧ BigD l := by
  rcases open_slice ht hf with ⟨hcs, _⟩ | ⟨a, len, cap, m, n, D, Pl, hcs, _, hl, hm, hmm, hx, hi⟩
  · exact ⟨none, 0, [], hcs, ⟨Nat.le_refl _, Nat.zero_le _, fun h => absurd h (by simp), fun x hx => by cases hx⟩, fun x hx => by cases hx⟩
  · subst hx
    have hle : len ≤ m := by rw [hmm]; split <;> omega
    rw [T.cells] at hi
    have each : ∀ i, i < len → ∃ f : DX, DeltaOk w f ∧ w.cell? ((a.add (i * 3)).add 0) = some (.int .i64 f.k) ∧ w.cell? ((a.add (i * 3)).add 1) = some (.string f.p) ∧ w.cell? ((a.add (i * 3)).add 2) = some (.slice f.A f.b.length f.c) := fun i hil => by
      obtain ⟨cs', hc, ht'⟩ := hi i (by omega)
      have hsz : Sized P e (D i) := hz.elem ht (List.mem_map.2 ⟨i, List.mem_range.2 hil, rfl⟩)
      obtain ⟨f, rfl, hf⟩ := open_deltaB T ht' hsz
      obtain ⟨_, _, hat⟩ := World.cells?_some hc
      exact ⟨f, hf, hat 0 (by omega), hat 1 (by omega), hat 2 (by omega)⟩
    haveI : Inhabited DX := ⟨⟨0, ⟨#[]⟩, none, 0, []⟩⟩
    obtain ⟨F, hF⟩ := choose_lt each
    have hll : ((List.range len).map F).length = len := by simp
    have hmem : ∀ f ∈ (List.range len).map F, DeltaOk w f := fun f hf => by
      obtain ⟨i, hi', rfl⟩ := List.mem_map.1 hf
      exact (hF i (List.mem_range.1 hi')).1
    refine ⟨some a, cap, (List.range len).map F, by rw [hll]; exact hcs, ⟨by rw [hll]; exact hl, hm, fun hn => ?_, fun f hf => (hmem f hf).bytes⟩, fun f hf => ?_⟩
    · rw [hll] at hn
      obtain ⟨g, o, s⟩ := a
      have h00 := (hF 0 hn).2.1
      obtain rfl : s = none := by simpa [Addr.add] using World.cell?_spot h00
      refine ⟨g, o, rfl, fun i x hx => ?_⟩
      have hil : i < len := by
        have := (List.getElem?_eq_some_iff.1 hx).1
        rwa [hll] at this
      rw [List.getElem?_map, List.getElem?_range hil] at hx
      obtain rfl : F i = x := by simpa using hx
      obtain ⟨_, h0, h1, h2⟩ := hF i hil
      rw [Go.WideShapes.add_plain, Go.WideShapes.add_plain] at h0 h1 h2
      exact ⟨h0, h1, h2⟩
    · have h3 := (hmem f hf).p
      have h4 := (hmem f hf).b
      unfold reachBytes at h3 h4
      exact ⟨by omega, by omega⟩

/-- [][]api.Delta that is an argument. -/
theorem open_rowsV {t e f u : TypeId} {f0 f1 f2 : Field} (ht : P.underlying t = some (.slice e)) (he : P.underlying e = some (.slice f)) (hce : P.cellsOf e = 1) (T : DeltaTy P f u f0 f1 f2) {r : Reach} {b0 : Nat} {v : Value} {d : DataW H} {p : List MemPlace}
    (hv : Value.okWide P w r b0 t v) (h : DataW.Trod enc P w base spare held t v d p) (hz : Sized P t d) : ∃ A c l, v = .slice A l.length c ∧ LRowAt w A c l := by
  obtain ⟨a, len, cap, rfl⟩ := okWide_slice ht hv
  obtain ⟨fuel, hf⟩ := h
  rcases open_slice1 ht hce hf with ⟨hcs, _⟩ | ⟨a, len, cap, m, n, V, D, Pl, hcs, _, hl, hm, hmm, hx, hi⟩
  · simp only [Value.cells, List.cons.injEq, and_true] at hcs
    exact ⟨none, 0, [], hcs, LRowAt.nil _ _ _ (Nat.zero_le _)⟩
  · simp only [Value.cells, List.cons.injEq, and_true] at hcs
    rw [Prod.mk.injEq] at hx
    obtain ⟨rfl, _⟩ := hx
    have hle : len ≤ m := by rw [hmm]; split <;> omega
    have each : ∀ i, i < len → ∃ x : LX, w.cell? (a.add i) = some (.slice x.A x.d.length x.c) ∧ DelsAt w x.A x.c x.d ∧ BigD x.d := fun i hil => by
      obtain ⟨h2, h3⟩ := hi i (by omega)
      have hsz : Sized P e (D i) := hz.elem ht (List.mem_map.2 ⟨i, List.mem_range.2 hil, rfl⟩)
      obtain ⟨A, c, l, hcs, h4, h5⟩ := open_deltasB he T h3 hsz
      simp only [List.cons.injEq, and_true] at hcs
      rw [hcs] at h2
      exact ⟨⟨A, c, l⟩, h2, h4, h5⟩
    obtain ⟨F, hF⟩ := choose_lt each
    have hll : ((List.range len).map F).length = len := by simp
    have hmem : ∀ x ∈ (List.range len).map F, ∃ i, i < len ∧ F i = x := fun x hx => by
      obtain ⟨i, hi', rfl⟩ := List.mem_map.1 hx
      exact ⟨i, List.mem_range.1 hi', rfl⟩
    refine ⟨some a, cap, (List.range len).map F, by rw [hll]; exact hcs, by rw [hll]; exact hl, hm, fun hn => ?_, fun x hx => ?_, fun x hx => ?_⟩
    · rw [hll] at hn
      obtain ⟨g, o, s⟩ := a
      have h00 := (hF 0 hn).1
      obtain rfl : s = none := by simpa [Addr.add] using World.cell?_spot h00
      refine ⟨g, o, rfl, fun i x hx => ?_⟩
      have hil : i < len := by
        have := (List.getElem?_eq_some_iff.1 hx).1
        rwa [hll] at this
      rw [List.getElem?_map, List.getElem?_range hil] at hx
      obtain rfl : F i = x := by simpa using hx
      have := (hF i hil).1
      rw [Go.WideShapes.add_plain] at this
      exact this
    · obtain ⟨i, hil, rfl⟩ := hmem x hx
      exact (hF i hil).2.1
    · obtain ⟨i, hil, rfl⟩ := hmem x hx
      exact (hF i hil).2.2
end
end Go.Proofs.YtnkfnmkbfnhmfaaDoor
namespace Go.Proofs.YtnkfnmkbfnhmfaaDoor
open Go Go.RowKit Go.Shelf Go.Proofs Go.ChangeMaps Go.Maps Go.WideMaps
attribute [local go_sem] Oper.semAt_some

def dA : DX := ⟨1, ⟨#[97]⟩, none, 0, []⟩
theorem apply_dA : applyT (flsX []) ([dA].map DX.dl) = .ok [([97], [])] := by kernel_rfl

theorem longDN_take (l : List DX) (k : Nat) : longDN (l.take k) ≤ longDN l := by
  have e : longDN l = longDN (l.take k) + longDN (l.drop k) := by
    unfold longDN
    rw [← List.sum_append, ← List.map_append, List.take_append_drop]
  omega
theorem longDN_len (l : List DX) : l.length ≤ longDN l := by
  induction l with
  | nil => exact Nat.zero_le _
  | cons x l ih =>
    have e : longDN (x :: l) = 1 + x.p.size + x.b.length + longDN l := by unfold longDN; simp [DX.long]
    rw [e, List.length_cons]
    omega
set_option maxRecDepth 100000 in
set_option maxHeartbeats 4000000 in
theorem reflongdeltas_many (l : List DX) (A : Option Addr) (c : Nat) (w : World) (h : DelsAt w A c l) (hl : longDN l ≤ 4611686018427387904) :
    Calls Tryd.prog 53 #[.slice A l.length c] w fun e w' => e = .returned (.int .i64 (longDN l)) ∧ Below w.heap.size w w' := by
  have HT := Lib.hid h; clear h
  have HLB := Lib.hid hl
  have hll := longDN_len l
  clear hl
  have hlm : l.length ≤ 4611686018427387904 := Nat.le_trans hll HLB.out
  go_enter Tryd.func53, Tryd.ntmps53
  go_wp2_with fail
  go_loopw [3, 4] (fun s i wr => ∃ (k : Nat), k ≤ l.length ∧ s = .int .i64 (longDN (l.take k)) ∧ i = .int .i64 k ∧ Below w.heap.size w wr) (fun _ i _ => l.length - (intOf i).toNat)
  case atStart => exact ⟨0, Nat.zero_le _, rfl, rfl, Below.refl _ _⟩
  case round =>
    obtain ⟨k, hk, rfl, rfl, hbr⟩ := hrel
    by_cases h1 : k < l.length
    · obtain ⟨x, hx⟩ : ∃ x, l[k]? = some x := ⟨_, List.getElem?_eq_getElem h1⟩
      obtain ⟨b, o, hA, hr⟩ := (HT.out.below hbr).row (by omega)
      subst hA
      obtain ⟨_, c1, c2⟩ := hr k x hx
      have hsn := longDN_snoc hx
      have hle : longDN (l.take (k + 1)) ≤ longDN l := longDN_take l (k + 1)
      have hlb := HLB.out
      rw [hsn] at hle
      have k1 : (k : Int) < (l.length : Int) := by omega
      generalize longDN (l.take k) = n at *
      have e1 : IntKind.i64.wrap ((n : Int) + 1) = (n : Int) + 1 := IntWalk.i64_in _ (by omega)
      have e2 : IntKind.i64.wrap ((n : Int) + 1 + (x.p.size : Int)) = (n : Int) + 1 + (x.p.size : Int) := IntWalk.i64_in _ (by omega)
      have e3 : IntKind.i64.wrap ((n : Int) + 1 + (x.p.size : Int) + (x.b.length : Int)) = (n : Int) + 1 + (x.p.size : Int) + (x.b.length : Int) := IntWalk.i64_in _ (by omega)
      clear hr hle hlb
      have HX := Lib.hid hx; clear hx
      have HSN := Lib.hid hsn; clear hsn
      go_wp2_with fail
      go_region
      go_wp2_with fail
      go_roundw
      case rel => exact ⟨k + 1, by omega, by rw [HSN.out]; go_num, by go_num, hbr.drew⟩
      case measure => simp [intOf]; omega
    · obtain rfl : k = l.length := by omega
      have hln : longDN (l.take l.length) = longDN l := by rw [List.take_length]
      have HLN := Lib.hid hln; clear hln
      go_wp2_with fail
      go_ret
      exact ⟨by rw [← HLN.out]; rfl, hbr⟩

def longLN (l : List LX) : Nat := (l.map fun x => 1 + longDN x.d).sum
theorem longLN_take (l : List LX) (k : Nat) : longLN (l.take k) ≤ longLN l := by
  have e : longLN l = longLN (l.take k) + longLN (l.drop k) := by
    unfold longLN
    rw [← List.sum_append, ← List.map_append, List.take_append_drop]
  omega
theorem longLN_snoc {l : List LX} {k : Nat} {x : LX} (hx : l[k]? = some x) : longLN (l.take (k + 1)) = longLN (l.take k) + 1 + longDN x.d := by
  unfold longLN
  rw [List.take_add_one, hx, List.map_append, List.sum_append]
  simp; omega
theorem longLN_mem {l : List LX} {x : LX} (h : x ∈ l) : 1 + longDN x.d ≤ longLN l := by
  induction l with
  | nil => cases h
  | cons y l ih =>
    have e : longLN (y :: l) = 1 + longDN y.d + longLN l := by unfold longLN; simp
    rw [e]
    rcases List.mem_cons.1 h with rfl | h
    · omega
    · have := ih h; omega
set_option maxRecDepth 100000 in
set_option maxHeartbeats 4000000 in
theorem hreflong_any (l : List LX) (A : Option Addr) (c : Nat) (w : World) (h : LRowAt w A c l) (hl : longLN l ≤ 4611686018427387904) :
    Calls Tryd.prog 36 #[.slice A l.length c] w fun e w' => e = .returned (.int .i64 (longLN l)) ∧ Below w.heap.size w w' := by
  have hlm : l.length ≤ maxLen := Nat.le_trans h.cap h.capm
  unfold maxLen at hlm
  have HT := Lib.hid h; clear h
  have HLB := Lib.hid hl; clear hl
  go_enter Tryd.func36, Tryd.ntmps36
  go_wp2_with fail
  go_loopw [3, 4] (fun s i wr => ∃ (k : Nat), k ≤ l.length ∧ s = .int .i64 (longLN (l.take k)) ∧ i = .int .i64 k ∧ Below w.heap.size w wr) (fun _ i _ => l.length - (intOf i).toNat)
  case atStart => exact ⟨0, Nat.zero_le _, rfl, rfl, Below.refl _ _⟩
  case round =>
    obtain ⟨k, hk, rfl, rfl, hbr⟩ := hrel
    by_cases h1 : k < l.length
    · obtain ⟨x, hx⟩ : ∃ x, l[k]? = some x := ⟨_, List.getElem?_eq_getElem h1⟩
      have hT := HT.out.below hbr
      obtain ⟨b, o, hA, hr⟩ := hT.row (by omega)
      subst hA
      have c1 := hr k x hx
      have hmem := List.mem_of_getElem? hx
      have hsn := longLN_snoc hx
      have hle : longLN (l.take (k + 1)) ≤ longLN l := longLN_take l (k + 1)
      have hlb := HLB.out
      rw [hsn] at hle
      have hmm := longLN_mem hmem
      have HLD := Lib.hid (reflongdeltas_many x.d x.A x.c wr (hT.dels x hmem) (by omega))
      have k1 : (k : Int) < (l.length : Int) := by omega
      generalize longLN (l.take k) = n at *
      generalize longDN x.d = m at *
      have e1 : IntKind.i64.wrap ((n : Int) + 1) = (n : Int) + 1 := IntWalk.i64_in _ (by omega)
      have e2 : IntKind.i64.wrap ((n : Int) + 1 + (m : Int)) = (n : Int) + 1 + (m : Int) := IntWalk.i64_in _ (by omega)
      have HSN := Lib.hid hsn
      clear hr hle hlb hsn hx hmem hmm hT
      go_wp2_with fail
      refine HLD.out.mono ?_
      rintro e w2 ⟨rfl, hq2⟩
      have hb2 := hbr.trans (hq2.mono hbr.size)
      clear hq2
      go_wp2_with fail
      go_roundw
      case rel => exact ⟨k + 1, by omega, by rw [HSN.out]; go_num, by go_num, hb2⟩
      case measure => simp [intOf]; omega
    · obtain rfl : k = l.length := by omega
      have hln : longLN (l.take l.length) = longLN l := by rw [List.take_length]
      have HLN := Lib.hid hln; clear hln
      go_wp2_with fail
      go_ret
      exact ⟨by rw [← HLN.out]; rfl, hbr⟩

def hsmallL (t : List FX) (l : List LX) : Bool := decide (t.length ≤ 30) && decide (longN t ≤ 2000) && decide (l.length ≤ 25) && decide (longLN l ≤ 3000)
end Go.Proofs.YtnkfnmkbfnhmfaaDoor
namespace Go.Proofs.YtnkfnmkbfnhmfaaDoor
open Go Go.RowKit Go.Shelf Go.Proofs Go.ChangeMaps Go.Maps Go.WideMaps
attribute [local go_sem] Oper.semAt_some

end Go.Proofs.YtnkfnmkbfnhmfaaDoor
namespace Go.Proofs.YtnkfnmkbfnhmfaaDoor
open Go Go.RowKit Go.Shelf Go.Proofs Go.ChangeShapes Go.WideShapes Go.Deep

theorem bulk_all {H : Type} (L : List (DataW H)) : Rows.uptoBulkAll L = (L.map Rows.uptoBulk).sum := by
  induction L with
  | nil => simp [Rows.uptoBulkAll]
  | cons d r ih => simp [Rows.uptoBulkAll, ih]
theorem bulk_pos {H : Type} (d : DataW H) : 1 ≤ Rows.uptoBulk d := by
  cases d with
  | lit l => cases l <;> simp [Rows.uptoBulk]
  | _ => simp [Rows.uptoBulk]
theorem sum_at {α : Type} (f : α → Nat) (g : Nat → Nat) (l : List α) (h : ∀ i x, l[i]? = some x → f x ≤ g i) : (l.map f).sum ≤ ((List.range l.length).map g).sum := by
  have key : ∀ k, k ≤ l.length → ((l.take k).map f).sum ≤ ((List.range k).map g).sum := by
    intro k
    induction k with
    | zero => intro _; simp
    | succ k ih =>
      intro hk
      obtain ⟨x, hx⟩ : ∃ x, l[k]? = some x := ⟨_, List.getElem?_eq_getElem (by omega)⟩
      have h1 := ih (by omega)
      have h2 := h k x hx
      rw [List.take_add_one, hx, List.map_append, List.sum_append, List.range_succ, List.map_append, List.sum_append]
      simp only [Option.toList, List.map_cons, List.map_nil, List.sum_cons, List.sum_nil]
      omega
  have := key l.length (Nat.le_refl _)
  rwa [List.take_length] at this
theorem bulk_ge {H : Type} (n : Nat) (D : Nat → DataW H) : n ≤ (((List.range n).map D).map Rows.uptoBulk).sum := by
  induction n with
  | zero => simp
  | succ n ih =>
    have := bulk_pos (D n)
    rw [List.range_succ, List.map_append, List.map_append, List.sum_append]
    simp
    simp at ih
    omega

section
variable {H : Type} {enc : TypeId × Value → H} {P : Program} {w : World} {base : Nat} {spare : Nat → Bool} {held : Bool}

theorem delta_bulk {t u : TypeId} {f0 f1 f2 : Field} (T : DeltaTy P t u f0 f1 f2) {fuel : Nat} {d : DX} {x : DataW H × List MemPlace}
    (h : DataW.trod enc P w base spare held fuel t d.cs = some x) : d.long ≤ Rows.uptoBulk x.1 := by
  obtain ⟨y0, y1, y2, n, rfl, hlen, h0, h1, h2⟩ := trod_struct3 T.st h
  obtain ⟨o0, k0⟩ := hone_of T.one 0 f0 rfl
  obtain ⟨o1, k1⟩ := hone_of T.one 1 f1 rfl
  obtain ⟨o2, k2⟩ := hone_of T.one 2 f2 rfl
  have h1 : DataW.trod enc P w base spare held n f1.type [.string d.p] = some y1 := by simpa [o1, k1, DX.cs] using h1
  have h2 : DataW.trod enc P w base spare held n f2.type [.slice d.A d.b.length d.c] = some y2 := by simpa [o2, k2, DX.cs] using h2
  obtain ⟨s, hs, rfl, _⟩ := DataW.trod_string T.str h1
  simp only [List.cons.injEq, and_true, Value.string.injEq] at hs
  subst hs
  have b2 : d.b.length ≤ Rows.uptoBulk y2.1 := by
    rcases open_slice T.byt h2 with ⟨hcs, hx⟩ | ⟨a, len, cap, m, n, D, Pl, hcs, _, hl, hm, hmm, hx, hi⟩
    · simp only [List.cons.injEq, and_true, Value.slice.injEq] at hcs
      omega
    · simp only [List.cons.injEq, and_true, Value.slice.injEq] at hcs
      rw [hx]
      simp only [Rows.uptoBulk, bulk_all]
      have := bulk_ge len D
      omega
  have e : d.p.data.toList.length = d.p.size := Array.length_toList
  simp only [Rows.uptoBulk, bulk_all, List.map_cons, List.map_nil, List.sum_cons, List.sum_nil]
  unfold DX.long
  omega

theorem deltas_bulk {t e u : TypeId} {f0 f1 f2 : Field} (ht : P.underlying t = some (.slice e)) (T : DeltaTy P e u f0 f1 f2) {fuel : Nat} {A : Option Addr} {c : Nat} {l : List DX} {x : DataW H × List MemPlace}
    (h : DataW.trod enc P w base spare held fuel t [.slice A l.length c] = some x) (hd : DelsAt w A c l) : 1 + longDN l ≤ Rows.uptoBulk x.1 := by
  rcases open_slice ht h with ⟨hcs, hx⟩ | ⟨a, len, cap, m, n, D, Pl, hcs, _, hl, hm, hmm, hx, hi⟩
  · simp only [List.cons.injEq, and_true, Value.slice.injEq] at hcs
    obtain rfl : l = [] := List.eq_nil_of_length_eq_zero (by omega)
    subst hx
    simp [Rows.uptoBulk, longDN]
  · simp only [List.cons.injEq, and_true, Value.slice.injEq] at hcs
    obtain ⟨rfl, rfl, rfl⟩ := hcs
    rw [hx]
    rw [T.cells] at hi
    have hle : l.length ≤ m := by rw [hmm]; split <;> omega
    simp only [Rows.uptoBulk, bulk_all, List.map_map]
    have := sum_at DX.long (Rows.uptoBulk ∘ D) l (fun i y hy => by
      have hil := (List.getElem?_eq_some_iff.1 hy).1
      obtain ⟨cs', hc, ht'⟩ := hi i (by omega)
      obtain ⟨g, o, hA, hrow⟩ := hd.row (by omega)
      simp only [Option.some.injEq] at hA
      subst hA
      obtain ⟨c0, c1, c2⟩ := hrow i y hy
      obtain ⟨_, hln, hat⟩ := World.cells?_some hc
      match cs', hln with
      | [v0, v1, v2], _ =>
        have a0 := hat 0 (by omega)
        have a1 := hat 1 (by omega)
        have a2 := hat 2 (by omega)
        rw [Go.WideShapes.add_plain, Go.WideShapes.add_plain] at a0 a1 a2
        have e0 := Option.some.inj (a0.symm.trans c0)
        have e1 := Option.some.inj (a1.symm.trans c1)
        have e2 := Option.some.inj (a2.symm.trans c2)
        subst e0; subst e1; subst e2
        exact delta_bulk T ht')
    unfold longDN
    omega

theorem rows_bulk {t e f u : TypeId} {f0 f1 f2 : Field} (ht : P.underlying t = some (.slice e)) (he : P.underlying e = some (.slice f)) (hce : P.cellsOf e = 1) (T : DeltaTy P f u f0 f1 f2) {A : Option Addr} {c : Nat} {l : List LX} {d : DataW H} {p : List MemPlace}
    (h : DataW.Trod enc P w base spare held t (.slice A l.length c) d p) (hl : LRowAt w A c l) : longLN l ≤ Rows.uptoBulk d := by
  obtain ⟨fuel, hf⟩ := h
  rcases open_slice1 ht hce hf with ⟨hcs, hx⟩ | ⟨a, len, cap, m, n, V, D, Pl, hcs, _, _, hm, hmm, hx, hi⟩
  · simp only [Value.cells, List.cons.injEq, and_true, Value.slice.injEq] at hcs
    obtain rfl : l = [] := List.eq_nil_of_length_eq_zero (by omega)
    simp [longLN]
  · simp only [Value.cells, List.cons.injEq, and_true, Value.slice.injEq] at hcs
    obtain ⟨rfl, rfl, rfl⟩ := hcs
    rw [Prod.mk.injEq] at hx
    obtain ⟨rfl, _⟩ := hx
    have hle : l.length ≤ m := by rw [hmm]; split <;> omega
    simp only [Rows.uptoBulk, bulk_all, List.map_map]
    have := sum_at (fun x : LX => 1 + longDN x.d) (Rows.uptoBulk ∘ D) l (fun i y hy => by
      have hil := (List.getElem?_eq_some_iff.1 hy).1
      obtain ⟨h2, h3⟩ := hi i (by omega)
      obtain ⟨g, o, hA, hrow⟩ := hl.row (by omega)
      simp only [Option.some.injEq] at hA
      subst hA
      have c0 := hrow i y hy
      rw [Go.WideShapes.add_plain] at h2
      have e0 := Option.some.inj (h2.symm.trans c0)
      rw [e0] at h3
      exact deltas_bulk he T h3 (hl.dels y (List.mem_of_getElem? hy)))
    unfold longLN
    omega
end
end Go.Proofs.YtnkfnmkbfnhmfaaDoor
