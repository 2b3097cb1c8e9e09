/-
  How long changes are: the document's LongDeltas. · An argument that is a row of changes, opened; what is known of its sizes. · An argument that is rows of changes, one behind the other, opened.
-/
import Derived.Test.YtffhfllikamccaaGreatDoorTLawKnown
import Derived.Deep.RegionLaw
import Derived.Test.YtffhfllikamccaaGreatDoorTOpen
namespace Go.Proofs.YtffhfllikamccaaGreatDoor
open Go Go.RowKit Go.Shelf Go.Proofs
attribute [local go_sem] Oper.semAt_some

def DX.long (x : DX) : Nat := 1 + x.p.size + x.b.length
def longDN (l : List DX) : Nat := (l.map DX.long).sum
def BigD (l : List DX) : Prop := ∀ x ∈ l, x.p.size ≤ 281474976710656 ∧ x.b.length ≤ 281474976710656
theorem longDN_snoc {l : List DX} {k : Nat} {x : DX} (hx : l[k]? = some x) : longDN (l.take (k + 1)) = longDN (l.take k) + 1 + x.p.size + x.b.length := by
  unfold longDN
  rw [List.take_add_one, hx, List.map_append, List.sum_append]
  simp [DX.long]; omega
theorem longDN_le (l : List DX) (h : BigD l) : longDN l ≤ l.length * 562949953421313 := by
  induction l with
  | nil => simp [longDN]
  | cons x l ih =>
    have := ih fun y hy => h y (by simp [hy])
    have := h x (by simp)
    unfold longDN at *
    simp only [List.map_cons, List.sum_cons, List.length_cons, DX.long]
    omega
theorem longDN_mem {l : List DX} {x : DX} (h : x ∈ l) : 1 + x.p.size + x.b.length ≤ longDN l := by
  induction l with
  | nil => cases h
  | cons y l ih =>
    have e : longDN (y :: l) = 1 + y.p.size + y.b.length + longDN l := by unfold longDN; simp [DX.long]
    rw [e]
    rcases List.mem_cons.1 h with rfl | h
    · omega
    · have := ih h; omega

set_option maxRecDepth 100000 in
set_option maxHeartbeats 4000000 in
theorem reflongdeltas_any (l : List DX) (A : Option Addr) (c : Nat) (w : World) (h : DelsAt w A c l) (hl : l.length ≤ 40) (hs : BigD l) :
    Calls Tryz.prog 46 #[.slice A l.length c] w fun e w' => e = .returned (.int .i64 (longDN l)) ∧ Below w.heap.size w w' := by
  have HT := Lib.hid h; clear h
  have HS := Lib.hid hs; clear hs
  go_enter Tryz.func46, Tryz.ntmps46
  go_wp2_with fail
  go_loopw [3, 4] (fun s i wr => ∃ (k : Nat), k ≤ l.length ∧ s = .int .i64 (longDN (l.take k)) ∧ i = .int .i64 k ∧ Below w.heap.size w wr) (fun _ i _ => l.length - (intOf i).toNat)
  case atStart => exact ⟨0, Nat.zero_le _, rfl, rfl, Below.refl _ _⟩
  case round =>
    obtain ⟨k, hk, rfl, rfl, hbr⟩ := hrel
    by_cases h1 : k < l.length
    · obtain ⟨x, hx⟩ : ∃ x, l[k]? = some x := ⟨_, List.getElem?_eq_getElem h1⟩
      obtain ⟨b, o, hA, hr⟩ := (HT.out.below hbr).row (by omega)
      subst hA
      obtain ⟨_, c1, c2⟩ := hr k x hx
      have hsn := longDN_snoc hx
      have hle := longDN_le (l.take k) fun y hy => HS.out y (List.mem_of_mem_take hy)
      have hlt : (l.take k).length ≤ 40 := by rw [List.length_take]; omega
      obtain ⟨hx1, hx2⟩ := HS.out x (List.mem_of_getElem? hx)
      have k1 : (k : Int) < (l.length : Int) := by omega
      have hn : longDN (l.take k) ≤ 40 * 562949953421313 := Nat.le_trans hle (Nat.mul_le_mul_right _ hlt)
      generalize longDN (l.take k) = n at *
      have e1 : IntKind.i64.wrap ((n : Int) + 1) = (n : Int) + 1 := IntWalk.i64_in _ (by omega)
      have e2 : IntKind.i64.wrap ((n : Int) + 1 + (x.p.size : Int)) = (n : Int) + 1 + (x.p.size : Int) := IntWalk.i64_in _ (by omega)
      have e3 : IntKind.i64.wrap ((n : Int) + 1 + (x.p.size : Int) + (x.b.length : Int)) = (n : Int) + 1 + (x.p.size : Int) + (x.b.length : Int) := IntWalk.i64_in _ (by omega)
      clear hr hle hlt
      have HX := Lib.hid hx; clear hx
      have HSN := Lib.hid hsn; clear hsn
      go_wp2_with fail
      go_region
      go_wp2_with fail
      go_roundw
      case rel => exact ⟨k + 1, by omega, by rw [HSN.out]; go_num, by go_num, hbr.drew⟩
      case measure => simp [intOf]; omega
    · obtain rfl : k = l.length := by omega
      have hln : longDN (l.take l.length) = longDN l := by rw [List.take_length]
      have HLN := Lib.hid hln; clear hln
      go_wp2_with fail
      go_ret
      exact ⟨by rw [← HLN.out]; rfl, hbr⟩
end Go.Proofs.YtffhfllikamccaaGreatDoor
namespace Go.Proofs.YtffhfllikamccaaGreatDoor
open Go Go.RowKit Go.Shelf Go.Proofs Go.ChangeShapes Go.WideShapes Go.Deep

section
variable {H : Type} {enc : TypeId × Value → H} {P : Program} {w : World} {base : Nat} {spare : Nat → Bool} {held : Bool}

/-- The closed facts of a type of changes: a number, a path, bytes. -/
structure DeltaTy (P : Program) (t u : TypeId) (f0 f1 f2 : Field) : Prop where
  st : P.underlying t = some (.struct #[f0, f1, f2])
  cells : P.cellsOf t = 3
  one : oneCellFields P #[f0, f1, f2] = true
  num : P.underlying f0.type = some (.int .i64)
  str : P.underlying f1.type = some .string
  byt : P.underlying f2.type = some (.slice u)
  u8 : P.underlying u = some (.int .u8)
  c1 : P.cellsOf u = 1
  b1 : P.bytesOf u = 1
/-- What a change that was handed in bears. -/
structure DeltaOk (w : World) (x : DX) : Prop where
  bytes : BytesAt w x.A x.b
  p : x.p.size ≤ reachBytes
  b : x.b.length ≤ reachBytes

theorem open_deltaB {t u : TypeId} {f0 f1 f2 : Field} (T : DeltaTy P t u f0 f1 f2) {fuel : Nat} {cs : List Value} {x : DataW H × List MemPlace}
    (h : DataW.trod enc P w base spare held fuel t cs = some x) (hz : Sized P t x.1) : ∃ d : DX, cs = d.cs ∧ DeltaOk w d := by
  obtain ⟨y0, y1, y2, n, rfl, hlen, h0, h1, h2⟩ := trod_struct3 T.st h
  obtain ⟨o0, k0⟩ := hone_of T.one 0 f0 rfl
  obtain ⟨o1, k1⟩ := hone_of T.one 1 f1 rfl
  obtain ⟨o2, k2⟩ := hone_of T.one 2 f2 rfl
  rw [T.cells] at hlen
  match cs, hlen with
  | [c0, c1, c2], _ =>
    have h0 : DataW.trod enc P w base spare held n f0.type [c0] = some y0 := by simpa [o0, k0] using h0
    have h1 : DataW.trod enc P w base spare held n f1.type [c1] = some y1 := by simpa [o1, k1] using h1
    have h2 : DataW.trod enc P w base spare held n f2.type [c2] = some y2 := by simpa [o2, k2] using h2
    obtain ⟨m, hm, rfl, _⟩ := DataW.trod_int T.num h0
    obtain ⟨s, hs, rfl, _⟩ := DataW.trod_string T.str h1
    have z2 : Sized P f2.type y2.1 := hz.field T.st (j := 2) (f := f2) rfl rfl
    have z1 : Sized P f1.type (.lit (.string s.data.toList) : DataW H) := hz.field T.st (j := 1) (f := f1) rfl rfl
    have z1 := z1.str
    rw [Array.length_toList] at z1
    obtain ⟨A, c, b, hb, h3, _, _, h5⟩ := open_bytesB T.byt T.u8 T.c1 T.b1 h2 z2
    simp only [List.cons.injEq, and_true] at hm hs hb
    subst hm; subst hs; subst hb
    exact ⟨⟨m, s, A, c, b⟩, rfl, h3, z1, h5⟩

theorem open_deltasV {t e u : TypeId} {f0 f1 f2 : Field} (ht : P.underlying t = some (.slice e)) (T : DeltaTy P e u f0 f1 f2) {r : Reach} {b0 : Nat} {v : Value} {d : DataW H} {p : List MemPlace} (hv : Value.okWide P w r b0 t v)
    (h : DataW.Trod enc P w base spare held t v d p) (hz : Sized P t d) : ∃ A c l, v = .slice A l.length c ∧ DelsAt w A c l ∧ BigD l := by
  obtain ⟨a, len, cap, rfl⟩ := okWide_slice ht hv
  obtain ⟨fuel, hf⟩ := h
  rcases open_slice ht hf with ⟨hcs, _⟩ | ⟨a, len, cap, m, n, D, Pl, hcs, _, hl, hm, hmm, hx, hi⟩
  · simp only [Value.cells, List.cons.injEq, and_true] at hcs
    exact ⟨none, 0, [], hcs, ⟨Nat.le_refl _, Nat.zero_le _, fun h => absurd h (by simp), fun x hx => by cases hx⟩, fun x hx => by cases hx⟩
  · simp only [Value.cells, List.cons.injEq, and_true] at hcs
    rw [Prod.mk.injEq] at hx
    obtain ⟨rfl, _⟩ := hx
    have hle : len ≤ m := by rw [hmm]; split <;> omega
    rw [T.cells] at hi
    have each : ∀ i, i < len → ∃ f : DX, DeltaOk w f ∧ w.cell? ((a.add (i * 3)).add 0) = some (.int .i64 f.k) ∧ w.cell? ((a.add (i * 3)).add 1) = some (.string f.p) ∧ w.cell? ((a.add (i * 3)).add 2) = some (.slice f.A f.b.length f.c) := fun i hil => by
      obtain ⟨cs', hc, ht'⟩ := hi i (by omega)
      have hsz : Sized P e (D i) := hz.elem ht (List.mem_map.2 ⟨i, List.mem_range.2 hil, rfl⟩)
      obtain ⟨f, rfl, hf⟩ := open_deltaB T ht' hsz
      obtain ⟨_, _, hat⟩ := World.cells?_some hc
      exact ⟨f, hf, hat 0 (by omega), hat 1 (by omega), hat 2 (by omega)⟩
    haveI : Inhabited DX := ⟨⟨0, ⟨#[]⟩, none, 0, []⟩⟩
    obtain ⟨F, hF⟩ := choose_lt each
    have hll : ((List.range len).map F).length = len := by simp
    have hmem : ∀ f ∈ (List.range len).map F, DeltaOk w f := fun f hf => by
      obtain ⟨i, hi', rfl⟩ := List.mem_map.1 hf
      exact (hF i (List.mem_range.1 hi')).1
    refine ⟨some a, cap, (List.range len).map F, by rw [hll]; exact hcs, ⟨by rw [hll]; exact hl, hm, fun hn => ?_, fun f hf => (hmem f hf).bytes⟩, fun f hf => ?_⟩
    · rw [hll] at hn
      obtain ⟨g, o, s⟩ := a
      have h00 := (hF 0 hn).2.1
      obtain rfl : s = none := by simpa [Addr.add] using World.cell?_spot h00
      refine ⟨g, o, rfl, fun i x hx => ?_⟩
      have hil : i < len := by
        have := (List.getElem?_eq_some_iff.1 hx).1
        rwa [hll] at this
      rw [List.getElem?_map, List.getElem?_range hil] at hx
      obtain rfl : F i = x := by simpa using hx
      obtain ⟨_, h0, h1, h2⟩ := hF i hil
      rw [Go.WideShapes.add_plain, Go.WideShapes.add_plain] at h0 h1 h2
      exact ⟨h0, h1, h2⟩
    · have h3 := (hmem f hf).p
      have h4 := (hmem f hf).b
      unfold reachBytes at h3 h4
      exact ⟨by omega, by omega⟩
end
theorem delta_ty : ∃ f0 f1 f2, DeltaTy Tryz.prog 62 5 f0 f1 f2 := ⟨_, _, _, Tryz.underlying62, by kernel_rfl, by kernel_rfl, by kernel_rfl, by kernel_rfl, by kernel_rfl, by kernel_rfl, by kernel_rfl, by kernel_rfl⟩
end Go.Proofs.YtffhfllikamccaaGreatDoor
namespace Go.Proofs.YtffhfllikamccaaGreatDoor
open Go Go.RowKit Go.Shelf Go.Proofs Go.ChangeShapes Go.WideShapes Go.Deep

/-- A row of changes in memory: where it lies, its room, the changes. -/
structure LX where
  A : Option Addr
  c : Nat
  d : List DX
instance : Inhabited LX := ⟨⟨none, 0, []⟩⟩
def LX.v (x : LX) : Value := .slice x.A x.d.length x.c
/-- The slice value .slice A n c holds the rows of changes l. -/
structure LRowAt (w : World) (A : Option Addr) (c : Nat) (l : List LX) : Prop where
  cap : l.length ≤ c
  capm : c ≤ maxLen
  row : 0 < l.length → ∃ g o, A = some ⟨g, o, none⟩ ∧ ∀ i x, l[i]? = some x → w.cell? ⟨g, o + i, none⟩ = some (.slice x.A x.d.length x.c)
  dels : ∀ x ∈ l, DelsAt w x.A x.c x.d
  big : ∀ x ∈ l, BigD x.d
theorem LRowAt.below {w w' : World} {A : Option Addr} {c : Nat} {l : List LX} (h : LRowAt w A c l) (hb : Below w.heap.size w w') : LRowAt w' A c l := by
  refine ⟨h.cap, h.capm, fun hn => ?_, fun x hx => (h.dels x hx).below hb, h.big⟩
  obtain ⟨g, o, e, hr⟩ := h.row hn
  refine ⟨g, o, e, fun i x hx => ?_⟩
  have h1 := hr i x hx
  exact (hb.cell (p := ⟨g, o + i, none⟩) (World.block_lt_of_cell? w (a := ⟨g, o + i, none⟩) h1)).trans h1
theorem LRowAt.nil (w : World) (A : Option Addr) (c : Nat) (hc : c ≤ maxLen) : LRowAt w A c [] := ⟨Nat.zero_le _, hc, fun h => absurd h (by simp), fun x hx => (by cases hx), fun x hx => (by cases hx)⟩

section
variable {H : Type} {enc : TypeId × Value → H} {P : Program} {w : World} {base : Nat} {spare : Nat → Bool} {held : Bool}

theorem open_deltasB {t e u : TypeId} {f0 f1 f2 : Field} (ht : P.underlying t = some (.slice e)) (T : DeltaTy P e u f0 f1 f2) {fuel : Nat} {cs : List Value} {x : DataW H × List MemPlace}
    (hf : DataW.trod enc P w base spare held fuel t cs = some x) (hz : Sized P t x.1) : ∃ A c l, cs = [.slice A l.length c] ∧ DelsAt w A c l ∧ BigD l := by
  rcases open_slice ht hf with ⟨hcs, _⟩ | ⟨a, len, cap, m, n, D, Pl, hcs, _, hl, hm, hmm, hx, hi⟩
  · exact ⟨none, 0, [], hcs, ⟨Nat.le_refl _, Nat.zero_le _, fun h => absurd h (by simp), fun x hx => by cases hx⟩, fun x hx => by cases hx⟩
  · subst hx
    have hle : len ≤ m := by rw [hmm]; split <;> omega
    rw [T.cells] at hi
    have each : ∀ i, i < len → ∃ f : DX, DeltaOk w f ∧ w.cell? ((a.add (i * 3)).add 0) = some (.int .i64 f.k) ∧ w.cell? ((a.add (i * 3)).add 1) = some (.string f.p) ∧ w.cell? ((a.add (i * 3)).add 2) = some (.slice f.A f.b.length f.c) := fun i hil => by
      obtain ⟨cs', hc, ht'⟩ := hi i (by omega)
      have hsz : Sized P e (D i) := hz.elem ht (List.mem_map.2 ⟨i, List.mem_range.2 hil, rfl⟩)
      obtain ⟨f, rfl, hf⟩ := open_deltaB T ht' hsz
      obtain ⟨_, _, hat⟩ := World.cells?_some hc
      exact ⟨f, hf, hat 0 (by omega), hat 1 (by omega), hat 2 (by omega)⟩
    haveI : Inhabited DX := ⟨⟨0, ⟨#[]⟩, none, 0, []⟩⟩
    obtain ⟨F, hF⟩ := choose_lt each
    have hll : ((List.range len).map F).length = len := by simp
    have hmem : ∀ f ∈ (List.range len).map F, DeltaOk w f := fun f hf => by
      obtain ⟨i, hi', rfl⟩ := List.mem_map.1 hf
      exact (hF i (List.mem_range.1 hi')).1
    refine ⟨some a, cap, (List.range len).map F, by rw [hll]; exact hcs, ⟨by rw [hll]; exact hl, hm, fun hn => ?_, fun f hf => (hmem f hf).bytes⟩, fun f hf => ?_⟩
    · rw [hll] at hn
      obtain ⟨g, o, s⟩ := a
      have h00 := (hF 0 hn).2.1
      obtain rfl : s = none := by simpa [Addr.add] using World.cell?_spot h00
      refine ⟨g, o, rfl, fun i x hx => ?_⟩
      have hil : i < len := by
        have := (List.getElem?_eq_some_iff.1 hx).1
        rwa [hll] at this
      rw [List.getElem?_map, List.getElem?_range hil] at hx
      obtain rfl : F i = x := by simpa using hx
      obtain ⟨_, h0, h1, h2⟩ := hF i hil
      rw [Go.WideShapes.add_plain, Go.WideShapes.add_plain] at h0 h1 h2
      exact ⟨h0, h1, h2⟩
    · have h3 := (hmem f hf).p
      have h4 := (hmem f hf).b
      unfold reachBytes at h3 h4
      exact ⟨by omega, by omega⟩

/-- [][]api.Delta that is an argument. -/
theorem open_rowsV {t e f u : TypeId} {f0 f1 f2 : Field} (ht : P.underlying t = some (.slice e)) (he : P.underlying e = some (.slice f)) (hce : P.cellsOf e = 1) (T : DeltaTy P f u f0 f1 f2) {r : Reach} {b0 : Nat} {v : Value} {d : DataW H} {p : List MemPlace}
    (hv : Value.okWide P w r b0 t v) (h : DataW.Trod enc P w base spare held t v d p) (hz : Sized P t d) : ∃ A c l, v = .slice A l.length c ∧ LRowAt w A c l := by
  obtain ⟨a, len, cap, rfl⟩ := okWide_slice ht hv
  obtain ⟨fuel, hf⟩ := h
  rcases open_slice1 ht hce hf with ⟨hcs, _⟩ | ⟨a, len, cap, m, n, V, D, Pl, hcs, _, hl, hm, hmm, hx, hi⟩
  · simp only [Value.cells, List.cons.injEq, and_true] at hcs
    exact ⟨none, 0, [], hcs, LRowAt.nil _ _ _ (Nat.zero_le _)⟩
  · simp only [Value.cells, List.cons.injEq, and_true] at hcs
    rw [Prod.mk.injEq] at hx
    obtain ⟨rfl, _⟩ := hx
    have hle : len ≤ m := by rw [hmm]; split <;> omega
    have each : ∀ i, i < len → ∃ x : LX, w.cell? (a.add i) = some (.slice x.A x.d.length x.c) ∧ DelsAt w x.A x.c x.d ∧ BigD x.d := fun i hil => by
      obtain ⟨h2, h3⟩ := hi i (by omega)
      have hsz : Sized P e (D i) := hz.elem ht (List.mem_map.2 ⟨i, List.mem_range.2 hil, rfl⟩)
      obtain ⟨A, c, l, hcs, h4, h5⟩ := open_deltasB he T h3 hsz
      simp only [List.cons.injEq, and_true] at hcs
      rw [hcs] at h2
      exact ⟨⟨A, c, l⟩, h2, h4, h5⟩
    obtain ⟨F, hF⟩ := choose_lt each
    have hll : ((List.range len).map F).length = len := by simp
    have hmem : ∀ x ∈ (List.range len).map F, ∃ i, i < len ∧ F i = x := fun x hx => by
      obtain ⟨i, hi', rfl⟩ := List.mem_map.1 hx
      exact ⟨i, List.mem_range.1 hi', rfl⟩
    refine ⟨some a, cap, (List.range len).map F, by rw [hll]; exact hcs, by rw [hll]; exact hl, hm, fun hn => ?_, fun x hx => ?_, fun x hx => ?_⟩
    · rw [hll] at hn
      obtain ⟨g, o, s⟩ := a
      have h00 := (hF 0 hn).1
      obtain rfl : s = none := by simpa [Addr.add] using World.cell?_spot h00
      refine ⟨g, o, rfl, fun i x hx => ?_⟩
      have hil : i < len := by
        have := (List.getElem?_eq_some_iff.1 hx).1
        rwa [hll] at this
      rw [List.getElem?_map, List.getElem?_range hil] at hx
      obtain rfl : F i = x := by simpa using hx
      have := (hF i hil).1
      rw [Go.WideShapes.add_plain] at this
      exact this
    · obtain ⟨i, hil, rfl⟩ := hmem x hx
      exact (hF i hil).2.1
    · obtain ⟨i, hil, rfl⟩ := hmem x hx
      exact (hF i hil).2.2
end
end Go.Proofs.YtffhfllikamccaaGreatDoor
