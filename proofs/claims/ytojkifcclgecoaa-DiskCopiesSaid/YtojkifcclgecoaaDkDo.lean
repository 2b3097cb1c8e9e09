/-
  What is done to a disk, as an argument: a row of it, opened; how much it is.
-/
import Derived.Test.YtojkifcclgecoaaDkOpen
import Derived.Test.YtojkifcclgecoaaDkKnown
import Derived.Lib.SmallJoins
import Derived.Deep.Strs
import Derived.Deep.Fields
namespace Go.Proofs.Ytojkifcclgecoaa.Dk
open Go Go.ChangeShapes Go.WideShapes Go.ChangeAt Go.RowKit Go.Shelf Go.Proofs Go.Deep

/-- How much a row has: one for each, and its bytes. -/
def sum1 (l : List BX) : Nat := (l.map fun x => 1 + x.b.length).sum
theorem sum1_snoc {l : List BX} {k : Nat} {x : BX} (h : l[k]? = some x) : sum1 (l.take (k + 1)) = sum1 (l.take k) + 1 + x.b.length := by
  unfold sum1; rw [List.take_add_one, h]; simp; omega
theorem sum1_take (l : List BX) (k : Nat) : sum1 (l.take k) ≤ sum1 l := by
  unfold sum1
  conv => rhs; rw [← List.take_append_drop k l, List.map_append, List.sum_append]
  omega
theorem sum1_mem {l : List BX} {x : BX} (h : x ∈ l) : 1 + x.b.length ≤ sum1 l := by
  unfold sum1
  induction l with
  | nil => cases h
  | cons y l ih =>
    rw [List.map_cons, List.sum_cons]
    rcases List.mem_cons.1 h with rfl | h
    · omega
    · have := ih h; omega
theorem sum1_big {l : List BX} (h : ∀ x ∈ l, x.b.length ≤ reachBytes) : sum1 l ≤ l.length * (reachBytes + 1) := by
  unfold sum1
  induction l with
  | nil => simp
  | cons x l ih =>
    have h1 := ih (fun y hy => h y (List.mem_cons_of_mem _ hy))
    have h2 := h x (List.mem_cons_self ..)
    rw [List.map_cons, List.sum_cons, List.length_cons, Nat.add_mul]
    omega
/-- Something that is done: its kind, an area, a number, bytes. -/
structure JX where
  k : Int
  a : Int
  n : Int
  A : Option Addr
  c : Nat
  b : Bs
instance : Inhabited JX := ⟨⟨0, 0, 0, none, 0, []⟩⟩
def JX.cs (x : JX) : List Value := [.int .i64 x.k, .int .i64 x.a, .int .i64 x.n, .slice x.A x.b.length x.c]
def JX.x (x : JX) : BX := ⟨x.A, x.c, x.b⟩
structure JOk (w : World) (x : JX) : Prop where
  sl : SlAt w x.A x.c x.b
  b : x.b.length ≤ reachBytes
  n : x.n ≤ 9223372036854775807
/-- The slice value .slice A n c holds what is done. -/
structure JDosAt (w : World) (A : Option Addr) (c : Nat) (l : List JX) : Prop where
  cap : l.length ≤ c
  capm : c ≤ maxLen
  row : 0 < l.length → ∃ g o, A = some ⟨g, o, none⟩ ∧ ∀ i x, l[i]? = some x → w.cell? ⟨g, o + i * 4, none⟩ = some (.int .i64 x.k) ∧ w.cell? ⟨g, o + i * 4 + 1, none⟩ = some (.int .i64 x.a) ∧ w.cell? ⟨g, o + i * 4 + 2, none⟩ = some (.int .i64 x.n) ∧ w.cell? ⟨g, o + i * 4 + 3, none⟩ = some (.slice x.A x.b.length x.c)
  each : ∀ x ∈ l, JOk w x
section
variable {H : Type} {enc : TypeId × Value → H} {P : Program} {w : World} {base : Nat} {spare : Nat → Bool} {held : Bool}
structure DoTy (P : Program) (t u : TypeId) (f0 f1 f2 f3 : Field) : Prop where
  st : P.underlying t = some (.struct #[f0, f1, f2, f3])
  cells : P.cellsOf t = 4
  one : oneCellFields P #[f0, f1, f2, f3] = true
  num : P.underlying f0.type = some (.int .i64)
  nun : P.underlying f1.type = some (.int .i64)
  nur : P.underlying f2.type = some (.int .i64)
  byt : P.underlying f3.type = some (.slice u)
  u8 : P.underlying u = some (.int .u8)
  c1 : P.cellsOf u = 1
  b1 : P.bytesOf u = 1
theorem open_doB {t u : TypeId} {f0 f1 f2 f3 : Field} (T : DoTy P t u f0 f1 f2 f3) {fuel : Nat} {cs : List Value} {x : DataW H × List MemPlace}
    (h : DataW.trod enc P w base spare held fuel t cs = some x) (hz : Sized P t x.1) : ∃ d : JX, cs = d.cs ∧ JOk w d := by
  obtain ⟨y0, y1, y2, y3, n, rfl, hlen, h0, h1, h2, h3'⟩ := Go.Joins.trod_struct4 T.st h
  obtain ⟨o0, k0⟩ := hone_of T.one 0 f0 rfl
  obtain ⟨o1, k1⟩ := hone_of T.one 1 f1 rfl
  obtain ⟨o2, k2⟩ := hone_of T.one 2 f2 rfl
  obtain ⟨o3, k3⟩ := hone_of T.one 3 f3 rfl
  rw [T.cells] at hlen
  match cs, hlen with
  | [c0, c1, c2, c3], _ =>
    have h0 : DataW.trod enc P w base spare held n f0.type [c0] = some y0 := by simpa [o0, k0] using h0
    have h1 : DataW.trod enc P w base spare held n f1.type [c1] = some y1 := by simpa [o1, k1] using h1
    have h2 : DataW.trod enc P w base spare held n f2.type [c2] = some y2 := by simpa [o2, k2] using h2
    have h3' : DataW.trod enc P w base spare held n f3.type [c3] = some y3 := by simpa [o3, k3] using h3'
    obtain ⟨m, hm, _, _⟩ := DataW.trod_int T.num h0
    obtain ⟨m1, hm1, _, _⟩ := DataW.trod_int T.nun h1
    obtain ⟨m2, hm2, _, hm2'⟩ := DataW.trod_int T.nur h2
    have z2 : Sized P f3.type y3.1 := hz.field T.st (j := 3) (f := f3) rfl rfl
    obtain ⟨A, c, b, hb, h3, h4, h5, h6⟩ := open_bytesB T.byt T.u8 T.c1 T.b1 h3' z2
    have hnil := elem_nil T.byt T.u8 T.c1 h3' A b.length c (List.cons.inj hb).1
    simp only [List.cons.injEq, and_true] at hm hm1 hm2 hb
    subst hm; subst hm1; subst hm2; subst hb
    exact ⟨⟨m, m1, m2, A, c, b⟩, rfl, ⟨h3, h4, h5, hnil⟩, h6, (bounds_i64 hm2').2⟩
theorem open_dosV {t e u : TypeId} {f0 f1 f2 f3 : Field} (ht : P.underlying t = some (.slice e)) (T : DoTy P e u f0 f1 f2 f3) {r : Reach} {b0 : Nat} {v : Value} {d : DataW H} {p : List MemPlace} (hv : Value.okWide P w r b0 t v)
    (h : DataW.Trod enc P w base spare held t v d p) (hz : Sized P t d) : ∃ A c l, v = .slice A l.length c ∧ JDosAt w A c l := by
  obtain ⟨a, len, cap, rfl⟩ := okWide_slice ht hv
  obtain ⟨fuel, hf⟩ := h
  rcases open_slice ht hf with ⟨hcs, _⟩ | ⟨a, len, cap, m, n, D, Pl, hcs, _, hl, hm, hmm, hx, hi⟩
  · simp only [Value.cells, List.cons.injEq, and_true] at hcs
    exact ⟨none, 0, [], hcs, ⟨Nat.le_refl _, Nat.zero_le _, fun h => absurd h (by simp), fun x hx => by cases hx⟩⟩
  · simp only [Value.cells, List.cons.injEq, and_true] at hcs
    rw [Prod.mk.injEq] at hx
    obtain ⟨rfl, _⟩ := hx
    have hle : len ≤ m := by rw [hmm]; split <;> omega
    rw [T.cells] at hi
    have each : ∀ i, i < len → ∃ f : JX, JOk w f ∧ w.cell? ((a.add (i * 4)).add 0) = some (.int .i64 f.k) ∧ w.cell? ((a.add (i * 4)).add 1) = some (.int .i64 f.a) ∧ w.cell? ((a.add (i * 4)).add 2) = some (.int .i64 f.n) ∧ w.cell? ((a.add (i * 4)).add 3) = some (.slice f.A f.b.length f.c) := fun i hil => by
      obtain ⟨cs', hc, ht'⟩ := hi i (by omega)
      have hsz : Sized P e (D i) := hz.elem ht (List.mem_map.2 ⟨i, List.mem_range.2 hil, rfl⟩)
      obtain ⟨f, rfl, hf⟩ := open_doB T ht' hsz
      obtain ⟨_, _, hat⟩ := World.cells?_some hc
      exact ⟨f, hf, hat 0 (by omega), hat 1 (by omega), hat 2 (by omega), hat 3 (by omega)⟩
    obtain ⟨F, hF⟩ := choose_lt each
    have hll : ((List.range len).map F).length = len := by simp
    have hmem : ∀ f ∈ (List.range len).map F, JOk w f := fun f hf => by
      obtain ⟨i, hi', rfl⟩ := List.mem_map.1 hf
      exact (hF i (List.mem_range.1 hi')).1
    refine ⟨some a, cap, (List.range len).map F, by rw [hll]; exact hcs, ⟨by rw [hll]; exact hl, hm, fun hn => ?_, hmem⟩⟩
    rw [hll] at hn
    obtain ⟨g, o, s⟩ := a
    have h00 := (hF 0 hn).2.1
    obtain rfl : s = none := by simpa [Addr.add] using World.cell?_spot h00
    refine ⟨g, o, rfl, fun i x hx => ?_⟩
    have hil : i < len := by
      have := (List.getElem?_eq_some_iff.1 hx).1
      rwa [hll] at this
    rw [List.getElem?_map, List.getElem?_range hil] at hx
    obtain rfl : F i = x := by simpa using hx
    obtain ⟨_, h0, h1, h2, h3⟩ := hF i hil
    rw [Go.WideShapes.add_plain, Go.WideShapes.add_plain] at h0 h1 h2 h3
    exact ⟨h0, h1, h2, h3⟩
end
theorem jdo_ty : ∃ f0 f1 f2 f3, DoTy Try.prog 61 5 f0 f1 f2 f3 := ⟨_, _, _, _, Try.underlying61, by kernel_rfl, by kernel_rfl, by kernel_rfl, by kernel_rfl, by kernel_rfl, by kernel_rfl, by kernel_rfl, by kernel_rfl, by kernel_rfl⟩
set_option maxRecDepth 100000 in
theorem open_jdos {H : Type} {enc : TypeId × Value → H} {W : World} {base b0 : Nat} {spare : Nat → Bool} {held : Bool} {r : Reach} {v : Value} {d : DataW H} {p : List MemPlace} (hv : Value.okWide Try.prog W r b0 53 v)
    (h : DataW.Trod enc Try.prog W base spare held 53 v d p) (hz : Sized Try.prog 53 d) : ∃ A c l, v = .slice A l.length c ∧ JDosAt W A c l := by
  obtain ⟨f0, f1, f2, f3, T⟩ := jdo_ty
  exact open_dosV Try.underlying53 T hv h hz

/-- How much it is. -/
def jlong (l : List JX) : Nat := sum1 (l.map JX.x)
theorem jlong_snoc {l : List JX} {k : Nat} {x : JX} (h : l[k]? = some x) : jlong (l.take (k + 1)) = jlong (l.take k) + 1 + x.b.length := by
  unfold jlong
  rw [List.map_take, List.map_take]
  exact sum1_snoc (x := x.x) (by rw [List.getElem?_map, h]; rfl)
theorem jlong_take (l : List JX) (k : Nat) : jlong (l.take k) ≤ jlong l := by unfold jlong; rw [List.map_take]; exact sum1_take _ _
theorem jlong_mem {l : List JX} {x : JX} (h : x ∈ l) : 1 + x.b.length ≤ jlong l := sum1_mem (x := x.x) (List.mem_map.2 ⟨x, h, rfl⟩)
theorem jlong_big {l : List JX} (h : ∀ x ∈ l, x.b.length ≤ reachBytes) : jlong l ≤ l.length * (reachBytes + 1) := by
  unfold jlong
  have := sum1_big (l := l.map JX.x) (fun y hy => by obtain ⟨x, hx, rfl⟩ := List.mem_map.1 hy; exact h x hx)
  rwa [List.length_map] at this
/-- Place by place, in whatever world comes. -/
theorem jdos_at {w : World} {A : Option Addr} {c : Nat} {l : List JX} (h : JDosAt w A c l) (i : Nat) (hi : i < l.length) : ∃ g o x, A = some ⟨g, o, none⟩ ∧ l[i]? = some x ∧ ∀ W, Below w.heap.size w W → W.cell? ⟨g, o + i * 4, none⟩ = some (.int .i64 x.k) ∧ W.cell? ⟨g, o + i * 4 + 1, none⟩ = some (.int .i64 x.a) ∧ W.cell? ⟨g, o + i * 4 + 2, none⟩ = some (.int .i64 x.n) ∧ W.cell? ⟨g, o + i * 4 + 3, none⟩ = some (.slice x.A x.b.length x.c) ∧ SlAt W x.A x.c x.b := by
  obtain ⟨x, hx⟩ : ∃ x, l[i]? = some x := ⟨_, List.getElem?_eq_getElem hi⟩
  obtain ⟨g, o, e, hc⟩ := h.row (by omega)
  have hm := List.mem_of_getElem? hx
  obtain ⟨h0, h1, h2, h3⟩ := hc i x hx
  refine ⟨g, o, x, e, hx, fun W hW => ⟨?_, ?_, ?_, ?_, (h.each x hm).sl.below hW⟩⟩
  · exact (hW.cell (p := ⟨g, o + i * 4, none⟩) (World.block_lt_of_cell? w (a := ⟨g, o + i * 4, none⟩) h0)).trans h0
  · exact (hW.cell (p := ⟨g, o + i * 4 + 1, none⟩) (World.block_lt_of_cell? w (a := ⟨g, o + i * 4 + 1, none⟩) h1)).trans h1
  · exact (hW.cell (p := ⟨g, o + i * 4 + 2, none⟩) (World.block_lt_of_cell? w (a := ⟨g, o + i * 4 + 2, none⟩) h2)).trans h2
  · exact (hW.cell (p := ⟨g, o + i * 4 + 3, none⟩) (World.block_lt_of_cell? w (a := ⟨g, o + i * 4 + 3, none⟩) h3)).trans h3

set_option maxRecDepth 100000 in
set_option maxHeartbeats 8000000 in
theorem jlong_any (A : Option Addr) (c : Nat) (l : List JX) (w : World) (h : JDosAt w A c l) (hl : l.length ≤ 50) :
    Calls Try.prog 60 #[.slice A l.length c] w fun e w' => e = .returned (.int .i64 (jlong l : Nat)) ∧ w' = w := by
  have R0 := Lib.hid (jdos_at h)
  have hcp := h.cap
  have hcm := h.capm
  have hcm : c ≤ 9223372036854775807 := by unfold maxLen at hcm; omega
  have hs0 : jlong l ≤ 50 * (reachBytes + 1) := Nat.le_trans (jlong_big (fun x hx => (h.each x hx).b)) (Nat.mul_le_mul_right _ hl)
  have hs0 : jlong l ≤ 15000000000000000 := by unfold reachBytes at hs0; omega
  have HS0 := Lib.hid hs0
  clear hs0 h
  go_enter Try.func60, Try.ntmps60
  go_wp2_with fail
  go_loop [3, 4] (fun s y => ∃ (i : Nat), i ≤ l.length ∧ s = .int .i64 (jlong (l.take i) : Nat) ∧ y = .int .i64 i) (fun _ y => l.length - (intOf y).toNat)
  case atStart => exact ⟨0, Nat.zero_le _, rfl, rfl⟩
  case round =>
    obtain ⟨i, hi, rfl, rfl⟩ := hrel
    by_cases k1 : i < l.length
    · obtain ⟨g, o, x, rfl, hx, hW⟩ := R0.out i k1
      obtain ⟨_, _, _, hc, _⟩ := hW w (Below.refl _ _)
      have k2 : (i : Int) < (l.length : Int) := by omega
      have k3 : (i : Int) < (c : Int) := by omega
      have hsn := jlong_snoc hx
      have hle := jlong_take l (i + 1)
      have hb := HS0.out
      have hub : jlong (l.take i) + 1 + x.b.length ≤ 15000000000000000 := by omega
      have HSN := Lib.hid hsn
      clear hsn hle hb hx hW
      generalize jlong (l.take i) = U at *
      go_wp2_with fail
      go_round
      case rel => exact ⟨i + 1, by omega, by rw [HSN.out]; go_num, by go_num⟩
      case measure => simp [intOf]; omega
    · obtain rfl : i = l.length := by omega
      rw [List.take_length]
      go_wp2_with fail
      go_ret
      exact ⟨rfl, rfl⟩
set_option maxRecDepth 100000 in
set_option maxHeartbeats 8000000 in
theorem jsmall_any (A : Option Addr) (c : Nat) (l : List JX) (w : World) (h : JDosAt w A c l) :
    Calls Try.prog 27 #[.slice A l.length c] w fun e w' => e = .returned (.bool (decide (l.length ≤ 50 ∧ jlong l ≤ 1500))) ∧ w' = w := by
  obtain ⟨ok, hok⟩ : ∃ ok : Bool, decide (l.length ≤ 50 ∧ jlong l ≤ 1500) = ok := ⟨_, rfl⟩
  rw [hok]
  have HOK := Lib.hid hok
  clear hok
  by_cases k : l.length ≤ 50
  · have HL := Lib.hid (jlong_any A c l w h k)
    have k1 : ((l.length : Int) ≤ 50) = True := eq_true (by omega)
    go_enter Try.func27, Try.ntmps27
    go_wp2_with fail
    refine HL.out.mono ?_
    rintro e w' ⟨rfl, hw⟩
    have hw := hw.symm
    subst hw
    by_cases k2 : jlong l ≤ 1500
    · obtain rfl : ok = true := HOK.out.symm.trans (decide_eq_true ⟨k, k2⟩)
      have k3 : ((jlong l : Int) ≤ 1500) = True := eq_true (by omega)
      go_wp2_with fail
      go_ret
      exact ⟨rfl, rfl⟩
    · obtain rfl : ok = false := HOK.out.symm.trans (decide_eq_false fun h => k2 h.2)
      have k3 : ((jlong l : Int) ≤ 1500) = False := eq_false (by omega)
      go_wp2_with fail
      go_ret
      exact ⟨rfl, rfl⟩
  · obtain rfl : ok = false := HOK.out.symm.trans (decide_eq_false fun h => k h.1)
    have k1 : ((l.length : Int) ≤ 50) = False := eq_false (by omega)
    go_enter Try.func27, Try.ntmps27
    go_wp2_with fail
    go_ret
    exact ⟨rfl, rfl⟩
end Go.Proofs.Ytojkifcclgecoaa.Dk
