/-
  What is done to a journal, as an argument: a row of it, opened; how much it is. · The law JournalLasts, walked.
-/
import Derived.Test.YtojkifcclgecoaaFrFrame
import Derived.Test.YtojkifcclgecoaaJnLawQ
import Derived.Deep.Strs
import Derived.Deep.Fields
import Derived.Test.YtojkifcclgecoaaJnLasts
import Derived.Test.YtojkifcclgecoaaJnLawT
import Derived.Test.YtojkifcclgecoaaDkCopy2
namespace Go.Proofs.Ytojkifcclgecoaa
open Go Go.ChangeShapes Go.WideShapes Go.ChangeAt Go.RowKit Go.Shelf Go.Proofs Go.Deep

/-- Something that is done: its kind, a number, bytes. -/
structure JX where
  k : Int
  n : Int
  A : Option Addr
  c : Nat
  b : Bs
instance : Inhabited JX := ⟨⟨0, 0, none, 0, []⟩⟩
def JX.cs (x : JX) : List Value := [.int .i64 x.k, .int .i64 x.n, .slice x.A x.b.length x.c]
def JX.x (x : JX) : BX := ⟨x.A, x.c, x.b⟩
structure JOk (w : World) (x : JX) : Prop where
  sl : SlAt w x.A x.c x.b
  b : x.b.length ≤ reachBytes
/-- The slice value .slice A n c holds what is done. -/
structure JDosAt (w : World) (A : Option Addr) (c : Nat) (l : List JX) : Prop where
  cap : l.length ≤ c
  capm : c ≤ maxLen
  row : 0 < l.length → ∃ g o, A = some ⟨g, o, none⟩ ∧ ∀ i x, l[i]? = some x → w.cell? ⟨g, o + i * 3, none⟩ = some (.int .i64 x.k) ∧ w.cell? ⟨g, o + i * 3 + 1, none⟩ = some (.int .i64 x.n) ∧ w.cell? ⟨g, o + i * 3 + 2, none⟩ = some (.slice x.A x.b.length x.c)
  each : ∀ x ∈ l, JOk w x
section
variable {H : Type} {enc : TypeId × Value → H} {P : Program} {w : World} {base : Nat} {spare : Nat → Bool} {held : Bool}
structure DoTy (P : Program) (t u : TypeId) (f0 f1 f2 : Field) : Prop where
  st : P.underlying t = some (.struct #[f0, f1, f2])
  cells : P.cellsOf t = 3
  one : oneCellFields P #[f0, f1, f2] = true
  num : P.underlying f0.type = some (.int .i64)
  nun : P.underlying f1.type = some (.int .i64)
  byt : P.underlying f2.type = some (.slice u)
  u8 : P.underlying u = some (.int .u8)
  c1 : P.cellsOf u = 1
  b1 : P.bytesOf u = 1
theorem open_doB {t u : TypeId} {f0 f1 f2 : Field} (T : DoTy P t u f0 f1 f2) {fuel : Nat} {cs : List Value} {x : DataW H × List MemPlace}
    (h : DataW.trod enc P w base spare held fuel t cs = some x) (hz : Sized P t x.1) : ∃ d : JX, cs = d.cs ∧ JOk w d := by
  obtain ⟨y0, y1, y2, n, rfl, hlen, h0, h1, h2⟩ := trod_struct3 T.st h
  obtain ⟨o0, k0⟩ := hone_of T.one 0 f0 rfl
  obtain ⟨o1, k1⟩ := hone_of T.one 1 f1 rfl
  obtain ⟨o2, k2⟩ := hone_of T.one 2 f2 rfl
  rw [T.cells] at hlen
  match cs, hlen with
  | [c0, c1, c2], _ =>
    have h0 : DataW.trod enc P w base spare held n f0.type [c0] = some y0 := by simpa [o0, k0] using h0
    have h1 : DataW.trod enc P w base spare held n f1.type [c1] = some y1 := by simpa [o1, k1] using h1
    have h2 : DataW.trod enc P w base spare held n f2.type [c2] = some y2 := by simpa [o2, k2] using h2
    obtain ⟨m, hm, _, _⟩ := DataW.trod_int T.num h0
    obtain ⟨m1, hm1, _, _⟩ := DataW.trod_int T.nun h1
    have z2 : Sized P f2.type y2.1 := hz.field T.st (j := 2) (f := f2) rfl rfl
    obtain ⟨A, c, b, hb, h3, h4, h5, h6⟩ := open_bytesB T.byt T.u8 T.c1 T.b1 h2 z2
    have hnil := elem_nil T.byt T.u8 T.c1 h2 A b.length c (List.cons.inj hb).1
    simp only [List.cons.injEq, and_true] at hm hm1 hb
    subst hm; subst hm1; subst hb
    exact ⟨⟨m, m1, A, c, b⟩, rfl, ⟨h3, h4, h5, hnil⟩, h6⟩
theorem open_dosV {t e u : TypeId} {f0 f1 f2 : Field} (ht : P.underlying t = some (.slice e)) (T : DoTy P e u f0 f1 f2) {r : Reach} {b0 : Nat} {v : Value} {d : DataW H} {p : List MemPlace} (hv : Value.okWide P w r b0 t v)
    (h : DataW.Trod enc P w base spare held t v d p) (hz : Sized P t d) : ∃ A c l, v = .slice A l.length c ∧ JDosAt w A c l := by
  obtain ⟨a, len, cap, rfl⟩ := okWide_slice ht hv
  obtain ⟨fuel, hf⟩ := h
  rcases open_slice ht hf with ⟨hcs, _⟩ | ⟨a, len, cap, m, n, D, Pl, hcs, _, hl, hm, hmm, hx, hi⟩
  · simp only [Value.cells, List.cons.injEq, and_true] at hcs
    exact ⟨none, 0, [], hcs, ⟨Nat.le_refl _, Nat.zero_le _, fun h => absurd h (by simp), fun x hx => by cases hx⟩⟩
  · simp only [Value.cells, List.cons.injEq, and_true] at hcs
    rw [Prod.mk.injEq] at hx
    obtain ⟨rfl, _⟩ := hx
    have hle : len ≤ m := by rw [hmm]; split <;> omega
    rw [T.cells] at hi
    have each : ∀ i, i < len → ∃ f : JX, JOk w f ∧ w.cell? ((a.add (i * 3)).add 0) = some (.int .i64 f.k) ∧ w.cell? ((a.add (i * 3)).add 1) = some (.int .i64 f.n) ∧ w.cell? ((a.add (i * 3)).add 2) = some (.slice f.A f.b.length f.c) := fun i hil => by
      obtain ⟨cs', hc, ht'⟩ := hi i (by omega)
      have hsz : Sized P e (D i) := hz.elem ht (List.mem_map.2 ⟨i, List.mem_range.2 hil, rfl⟩)
      obtain ⟨f, rfl, hf⟩ := open_doB T ht' hsz
      obtain ⟨_, _, hat⟩ := World.cells?_some hc
      exact ⟨f, hf, hat 0 (by omega), hat 1 (by omega), hat 2 (by omega)⟩
    obtain ⟨F, hF⟩ := choose_lt each
    have hll : ((List.range len).map F).length = len := by simp
    have hmem : ∀ f ∈ (List.range len).map F, JOk w f := fun f hf => by
      obtain ⟨i, hi', rfl⟩ := List.mem_map.1 hf
      exact (hF i (List.mem_range.1 hi')).1
    refine ⟨some a, cap, (List.range len).map F, by rw [hll]; exact hcs, ⟨by rw [hll]; exact hl, hm, fun hn => ?_, hmem⟩⟩
    rw [hll] at hn
    obtain ⟨g, o, s⟩ := a
    have h00 := (hF 0 hn).2.1
    obtain rfl : s = none := by simpa [Addr.add] using World.cell?_spot h00
    refine ⟨g, o, rfl, fun i x hx => ?_⟩
    have hil : i < len := by
      have := (List.getElem?_eq_some_iff.1 hx).1
      rwa [hll] at this
    rw [List.getElem?_map, List.getElem?_range hil] at hx
    obtain rfl : F i = x := by simpa using hx
    obtain ⟨_, h0, h1, h2⟩ := hF i hil
    rw [Go.WideShapes.add_plain, Go.WideShapes.add_plain] at h0 h1 h2
    exact ⟨h0, h1, h2⟩
end
theorem jdo_ty : ∃ f0 f1 f2, DoTy Try.prog 36 5 f0 f1 f2 := ⟨_, _, _, Try.underlying36, by kernel_rfl, by kernel_rfl, by kernel_rfl, by kernel_rfl, by kernel_rfl, by kernel_rfl, by kernel_rfl, by kernel_rfl⟩
set_option maxRecDepth 100000 in
theorem open_jdos {H : Type} {enc : TypeId × Value → H} {W : World} {base b0 : Nat} {spare : Nat → Bool} {held : Bool} {r : Reach} {v : Value} {d : DataW H} {p : List MemPlace} (hv : Value.okWide Try.prog W r b0 22 v)
    (h : DataW.Trod enc Try.prog W base spare held 22 v d p) (hz : Sized Try.prog 22 d) : ∃ A c l, v = .slice A l.length c ∧ JDosAt W A c l := by
  obtain ⟨f0, f1, f2, T⟩ := jdo_ty
  exact open_dosV Try.underlying22 T hv h hz

/-- How much it is. -/
def jlong (l : List JX) : Nat := sum1 (l.map JX.x)
theorem jlong_snoc {l : List JX} {k : Nat} {x : JX} (h : l[k]? = some x) : jlong (l.take (k + 1)) = jlong (l.take k) + 1 + x.b.length := by
  unfold jlong
  rw [List.map_take, List.map_take]
  exact sum1_snoc (x := x.x) (by rw [List.getElem?_map, h]; rfl)
theorem jlong_take (l : List JX) (k : Nat) : jlong (l.take k) ≤ jlong l := by unfold jlong; rw [List.map_take]; exact sum1_take _ _
theorem jlong_mem {l : List JX} {x : JX} (h : x ∈ l) : 1 + x.b.length ≤ jlong l := sum1_mem (x := x.x) (List.mem_map.2 ⟨x, h, rfl⟩)
theorem jlong_big {l : List JX} (h : ∀ x ∈ l, x.b.length ≤ reachBytes) : jlong l ≤ l.length * (reachBytes + 1) := by
  unfold jlong
  have := sum1_big (l := l.map JX.x) (fun y hy => by obtain ⟨x, hx, rfl⟩ := List.mem_map.1 hy; exact h x hx)
  rwa [List.length_map] at this
/-- Place by place, in whatever world comes. -/
theorem jdos_at {w : World} {A : Option Addr} {c : Nat} {l : List JX} (h : JDosAt w A c l) (i : Nat) (hi : i < l.length) : ∃ g o x, A = some ⟨g, o, none⟩ ∧ l[i]? = some x ∧ ∀ W, Below w.heap.size w W → W.cell? ⟨g, o + i * 3, none⟩ = some (.int .i64 x.k) ∧ W.cell? ⟨g, o + i * 3 + 1, none⟩ = some (.int .i64 x.n) ∧ W.cell? ⟨g, o + i * 3 + 2, none⟩ = some (.slice x.A x.b.length x.c) ∧ SlAt W x.A x.c x.b := by
  obtain ⟨x, hx⟩ : ∃ x, l[i]? = some x := ⟨_, List.getElem?_eq_getElem hi⟩
  obtain ⟨g, o, e, hc⟩ := h.row (by omega)
  have hm := List.mem_of_getElem? hx
  obtain ⟨h0, h1, h2⟩ := hc i x hx
  refine ⟨g, o, x, e, hx, fun W hW => ⟨?_, ?_, ?_, (h.each x hm).sl.below hW⟩⟩
  · exact (hW.cell (p := ⟨g, o + i * 3, none⟩) (World.block_lt_of_cell? w (a := ⟨g, o + i * 3, none⟩) h0)).trans h0
  · exact (hW.cell (p := ⟨g, o + i * 3 + 1, none⟩) (World.block_lt_of_cell? w (a := ⟨g, o + i * 3 + 1, none⟩) h1)).trans h1
  · exact (hW.cell (p := ⟨g, o + i * 3 + 2, none⟩) (World.block_lt_of_cell? w (a := ⟨g, o + i * 3 + 2, none⟩) h2)).trans h2

set_option maxRecDepth 100000 in
set_option maxHeartbeats 8000000 in
theorem jlong_any (A : Option Addr) (c : Nat) (l : List JX) (w : World) (h : JDosAt w A c l) (hl : l.length ≤ 30) :
    Calls Try.prog 26 #[.slice A l.length c] w fun e w' => e = .returned (.int .i64 (jlong l : Nat)) ∧ w' = w := by
  have R0 := Lib.hid (jdos_at h)
  have hcp := h.cap
  have hcm := h.capm
  have hcm : c ≤ 9223372036854775807 := by unfold maxLen at hcm; omega
  have hs0 : jlong l ≤ 30 * (reachBytes + 1) := Nat.le_trans (jlong_big (fun x hx => (h.each x hx).b)) (Nat.mul_le_mul_right _ hl)
  have hs0 : jlong l ≤ 9000000000000000 := by unfold reachBytes at hs0; omega
  have HS0 := Lib.hid hs0
  clear hs0 h
  go_enter Try.func26, Try.ntmps26
  go_wp2_with fail
  go_loop [3, 4] (fun s y => ∃ (i : Nat), i ≤ l.length ∧ s = .int .i64 (jlong (l.take i) : Nat) ∧ y = .int .i64 i) (fun _ y => l.length - (intOf y).toNat)
  case atStart => exact ⟨0, Nat.zero_le _, rfl, rfl⟩
  case round =>
    obtain ⟨i, hi, rfl, rfl⟩ := hrel
    by_cases k1 : i < l.length
    · obtain ⟨g, o, x, rfl, hx, hW⟩ := R0.out i k1
      obtain ⟨_, _, hc, _⟩ := hW w (Below.refl _ _)
      have k2 : (i : Int) < (l.length : Int) := by omega
      have k3 : (i : Int) < (c : Int) := by omega
      have hsn := jlong_snoc hx
      have hle := jlong_take l (i + 1)
      have hb := HS0.out
      have hub : jlong (l.take i) + 1 + x.b.length ≤ 9000000000000000 := by omega
      have HSN := Lib.hid hsn
      clear hsn hle hb hx hW
      generalize jlong (l.take i) = U at *
      go_wp2_with fail
      go_round
      case rel => exact ⟨i + 1, by omega, by rw [HSN.out]; go_num, by go_num⟩
      case measure => simp [intOf]; omega
    · obtain rfl : i = l.length := by omega
      rw [List.take_length]
      go_wp2_with fail
      go_ret
      exact ⟨rfl, rfl⟩
set_option maxRecDepth 100000 in
set_option maxHeartbeats 8000000 in
theorem jsmall_any (A : Option Addr) (c : Nat) (l : List JX) (w : World) (h : JDosAt w A c l) :
    Calls Try.prog 9 #[.slice A l.length c] w fun e w' => e = .returned (.bool (decide (l.length ≤ 30 ∧ jlong l ≤ 1000))) ∧ w' = w := by
  obtain ⟨ok, hok⟩ : ∃ ok : Bool, decide (l.length ≤ 30 ∧ jlong l ≤ 1000) = ok := ⟨_, rfl⟩
  rw [hok]
  have HOK := Lib.hid hok
  clear hok
  by_cases k : l.length ≤ 30
  · have HL := Lib.hid (jlong_any A c l w h k)
    have k1 : ((l.length : Int) ≤ 30) = True := eq_true (by omega)
    go_enter Try.func9, Try.ntmps9
    go_wp2_with fail
    refine HL.out.mono ?_
    rintro e w' ⟨rfl, hw⟩
    have hw := hw.symm
    subst hw
    by_cases k2 : jlong l ≤ 1000
    · obtain rfl : ok = true := HOK.out.symm.trans (decide_eq_true ⟨k, k2⟩)
      have k3 : ((jlong l : Int) ≤ 1000) = True := eq_true (by omega)
      go_wp2_with fail
      go_ret
      exact ⟨rfl, rfl⟩
    · obtain rfl : ok = false := HOK.out.symm.trans (decide_eq_false fun h => k2 h.2)
      have k3 : ((jlong l : Int) ≤ 1000) = False := eq_false (by omega)
      go_wp2_with fail
      go_ret
      exact ⟨rfl, rfl⟩
  · obtain rfl : ok = false := HOK.out.symm.trans (decide_eq_false fun h => k h.1)
    have k1 : ((l.length : Int) ≤ 30) = False := eq_false (by omega)
    go_enter Try.func9, Try.ntmps9
    go_wp2_with fail
    go_ret
    exact ⟨rfl, rfl⟩
end Go.Proofs.Ytojkifcclgecoaa
namespace Go.Proofs.Ytojkifcclgecoaa
open Go Go.RowKit Go.Shelf Go.Proofs Go.Proofs.Ytojkifcclgecoaa.Dk

theorem kn_opens (r : Nat) : openO (jd zA zA zA r) = none ∧ openE (jd zA zA zA r) = 0 ∧ openD (jd zA zA zA r) = jd zA zA zA r := by
  obtain ⟨h1, h2, h3, h4⟩ := jd_open zA zA zA r
  have e : newL [zA.now, zA.now] = none := by rw [newL_two, z_now, newStep_none (numb_few (by simp)), newStep_none (numb_few (by simp))]
  refine ⟨by rw [h1, e], h3, ?_⟩
  rw [h4, e, z_now, recL_nil, lenR_nil, List.length_nil]
  exact if_neg (by omega)
theorem jl_arm (p : Nat) (hp : p < 65536) : (jd zA zA zA 100000).arm (p : Int) = jp (sA []) (sA []) (logA 0 [] 0) p := by
  have e : (min (max (p : Int) 0) 1000000000).toNat = p := by omega
  show (⟨[zA, zA, zA], 100000, some (min (max (p : Int) 0) 1000000000).toNat, false⟩ : DDk) = _
  rw [e]; rfl
theorem logA_more (q : Nat) (recs : List Bs) (x : Bs) {s : Nat} (hs : s ≤ recs.length) : (⟨(logA q recs s).l, (logA q recs s).p ++ (numbF q x).map .byte⟩ : DAr) = logA q (recs ++ [x]) s := by
  unfold logA
  rw [List.take_append_of_le_length hs, List.drop_append_of_le_length hs, joinR_append, joinR_cons, joinR_nil, List.append_nil, List.map_append]
theorem logA_all (q : Nat) (recs : List Bs) {s : Nat} (hs : s ≤ recs.length) : sA (logA q recs s).now = logA q recs recs.length := by
  rw [logA_now q recs hs]
  unfold logA sA
  rw [List.take_length, List.drop_length]; rfl
theorem ds_turn {B : Nat} {who who' : Nat → Nat} {w w' : World} {T lo hi g n : Nat} {d : DDk} (h : DS B who w T g d n) (ht : Turn lo hi who w who' w') (hf : Fresh who' w') (hlo : 0 < lo) (hne : hi ≤ T ∨ T + 26 ≤ lo) : DS B who' w' T g d n :=
  ⟨h.at_.keep h.fits fun b hb h0 => ⟨ht.block b hb (by omega), ht.same b hb⟩, h.fits, hf, Nat.le_trans h.le ht.size⟩
/-- How much there is in a journal. -/
structure JB (i U q : Nat) (a b : Bs) (recs : List Bs) (s : Nat) : Prop where
  q : q ≤ i
  a : a.length ≤ 1016
  b : b.length ≤ 1016
  n : recs.length ≤ i
  s : s ≤ recs.length
  r : lenR recs ≤ 16 * i + U
theorem JB.room {i U q s k : Nat} {a b : Bs} {recs : List Bs} (h : JB i U q a b recs s) (hi : i ≤ 30) (hU : U ≤ 1000) {x : Bs} (hx : x.length ≤ 1000) : (sA a).now.length + (sA b).now.length + (logA q recs s).now.length + (numbF q x).length ≤ 100000 ∧ (jp (sA a) (sA b) (logA q recs s) k).pw = some k := by
  rw [sA_now, sA_now, logA_now q recs h.s, joinR_length, numbF_length]
  have h1 := h.a; have h2 := h.b; have h3 := h.r
  exact ⟨by omega, rfl⟩
section
variable {i U q s k : Nat} {a b st : Bs} {recs : List Bs}
theorem jl_append (h : JB i U q a b recs s) (hi : i < 30) (x : Bs) (hU : U + 1 + x.length ≤ 1000) (hf : (numbF q x).length ≤ k) :
    appendE (jp (sA a) (sA b) (logA q recs s) k) 2 (numbF q x) = 0 ∧ appendD (jp (sA a) (sA b) (logA q recs s) k) 2 (numbF q x) = jp (sA a) (sA b) (logA q (recs ++ [x]) s) (k - (numbF q x).length) ∧ JB (i + 1) (U + 1 + x.length) q a b (recs ++ [x]) s := by
  obtain ⟨h1, _⟩ := jp_append (sA a) (sA b) (logA q recs s) k (numbF q x) (h.room (k := k) (by omega) (by omega) (by omega)).1
  obtain ⟨h2, h3⟩ := h1 hf
  rw [logA_more q recs x h.s] at h3
  have e1 := h.q; have e2 := h.a; have e3 := h.b; have e4 := h.n; have e5 := h.s; have e6 := h.r
  refine ⟨h2, h3, ⟨by omega, e2, e3, by rw [List.length_append, List.length_singleton]; omega, by rw [List.length_append, List.length_singleton]; omega, by rw [lenR_append, lenR_cons, lenR_nil]; omega⟩⟩
theorem jl_appendx (h : JB i U q a b recs s) (hi : i < 30) (x : Bs) (hU : U + 1 + x.length ≤ 1000) (hP : SlotsP q st a b) (hf : ¬ (numbF q x).length ≤ k) (keep : Int) :
    appendE (jp (sA a) (sA b) (logA q recs s) k) 2 (numbF q x) = 10 ∧ ∃ L t, Rst (appendD (jp (sA a) (sA b) (logA q recs s) k) 2 (numbF q x)) keep q st a b L t ∧ okL st L st (recs ++ [x]) s := by
  obtain ⟨_, h1⟩ := jp_append (sA a) (sA b) (logA q recs s) k (numbF q x) (h.room (k := k) (by omega) (by omega) (by omega)).1
  obtain ⟨h2, h3⟩ := h1 (by omega)
  have e1 := h.q; have e2 := h.a; have e3 := h.b; have e6 := h.r
  rw [h3]
  exact ⟨h2, last_append keep hP (by omega) h.s (by omega) (by omega) (by omega) (by omega) (by omega)⟩
theorem jl_sync (h : JB i U q a b recs s) (hf : 1 ≤ k) :
    syncE (jp (sA a) (sA b) (logA q recs s) k) 2 = 0 ∧ syncD (jp (sA a) (sA b) (logA q recs s) k) 2 = jp (sA a) (sA b) (logA q recs recs.length) (k - 1) := by
  obtain ⟨h1, _⟩ := jp_sync (sA a) (sA b) (logA q recs s) k
  obtain ⟨h2, h3⟩ := h1 hf
  rw [logA_all q recs h.s] at h3
  exact ⟨h2, h3⟩
theorem jl_syncx (h : JB i U q a b recs s) (hi : i ≤ 30) (hU : U ≤ 1000) (hP : SlotsP q st a b) (hf : ¬ 1 ≤ k) (keep : Int) :
    syncE (jp (sA a) (sA b) (logA q recs s) k) 2 = 10 ∧ ∃ L t, Rst (syncD (jp (sA a) (sA b) (logA q recs s) k) 2) keep q st a b L t ∧ okL st L st recs s := by
  obtain ⟨_, h1⟩ := jp_sync (sA a) (sA b) (logA q recs s) k
  obtain ⟨h2, h3⟩ := h1 (by omega)
  have e1 := h.q; have e2 := h.a; have e3 := h.b; have e6 := h.r
  rw [h3]
  exact ⟨h2, last_log keep _ rfl hP (by omega) h.s (by omega) (by omega) (by omega)⟩
theorem jl_end (h : JB i U q a b recs s) (hi : i ≤ 30) (hU : U ≤ 1000) (hP : SlotsP q st a b) (keep : Int) :
    ∃ L t, Rst (jp (sA a) (sA b) (logA q recs s) k) keep q st a b L t ∧ okL st L st recs s := by
  have e1 := h.q; have e2 := h.a; have e3 := h.b; have e6 := h.r
  exact last_log keep _ rfl hP (by omega) h.s (by omega) (by omega) (by omega)
theorem JB.all (h : JB i U q a b recs s) {V : Nat} (hV : U ≤ V) : JB (i + 1) V q a b recs recs.length := by
  have e1 := h.q; have e2 := h.a; have e3 := h.b; have e4 := h.n; have e6 := h.r
  exact ⟨by omega, e2, e3, by omega, Nat.le_refl _, by omega⟩
theorem JB.more (h : JB i U q a b recs s) {V : Nat} (hV : U ≤ V) : JB (i + 1) V q a b recs s := by
  have e1 := h.q; have e2 := h.a; have e3 := h.b; have e4 := h.n; have e5 := h.s; have e6 := h.r
  exact ⟨by omega, e2, e3, by omega, e5, by omega⟩
/-- A checkpoint: done, or power is lost. -/
theorem jl_cp (h : JB i U q a b recs s) (hi : i < 30) (x : Bs) (hU : U + 1 + x.length ≤ 1000) (hP : SlotsP q st a b) (keep : Int) :
    (cpE (jp (sA a) (sA b) (logA q recs s) k) q x = 0 ∧ cpQ (jp (sA a) (sA b) (logA q recs s) k) q x = q + 1 ∧ ∃ a' b' k', cpD (jp (sA a) (sA b) (logA q recs s) k) q x = jp (sA a') (sA b') (logA (q + 1) [] 0) k' ∧ SlotsP (q + 1) x a' b' ∧ JB (i + 1) (U + 1 + x.length) (q + 1) a' b' [] 0) ∨
    (cpE (jp (sA a) (sA b) (logA q recs s) k) q x = 10 ∧ ∃ q' st' a' b' L t, Rst (cpD (jp (sA a) (sA b) (logA q recs s) k) q x) keep q' st' a' b' L t ∧ (okL st' L st recs s ∨ okL st' L x [] 0)) := by
  have e1 := h.q; have e2 := h.a; have e3 := h.b; have e4 := h.n; have e5 := h.s; have e6 := h.r
  have hnl := numbF_length (q + 1) x
  have hnb : numb (numbF (q + 1) x) = some (q + 1, x) := by have := numb_join (n := q + 1) (b := x) (t := []) (by omega) (by omega); rwa [List.append_nil] at this
  by_cases hE : cpE (jp (sA a) (sA b) (logA q recs s) k) q x = 0
  · left
    rcases Nat.mod_two_eq_zero_or_one (q + 1) with hp | hp
    · rcases jp_cp0 (sA a) (sA b) (logA q recs s) k q x hp (by rw [sA_now, logA_now q recs h.s, joinR_length]; omega) with ⟨_, h1, k', h2, _⟩ | ⟨h1, _⟩
      · exact ⟨hE, h1, _, _, k', h2, hP.new0 hp hnb, ⟨by omega, by omega, e3, Nat.zero_le _, Nat.le_refl _, by rw [lenR_nil]; omega⟩⟩
      · omega
    · rcases jp_cp1 (sA a) (sA b) (logA q recs s) k q x hp (by rw [sA_now, logA_now q recs h.s, joinR_length]; omega) with ⟨_, h1, k', h2, _⟩ | ⟨h1, _⟩
      · exact ⟨hE, h1, _, _, k', h2, hP.new1 hp hnb, ⟨by omega, e2, by omega, Nat.zero_le _, Nat.le_refl _, by rw [lenR_nil]; omega⟩⟩
      · omega
  · right
    rcases Nat.mod_two_eq_zero_or_one (q + 1) with hp | hp
    · exact last_cp0 keep hP (by omega) hp h.s (by omega) (by omega) (by omega) (fun y hy => by have := lenR_all e6 y hy; omega) (by omega) hE
    · exact last_cp1 keep hP (by omega) hp h.s (by omega) (by omega) (by omega) (fun y hy => by have := lenR_all e6 y hy; omega) (by omega) hE
end
set_option maxRecDepth 100000 in
set_option maxHeartbeats 16000000 in
theorem journallasts_any (A0 : Option Addr) (c0 : Nat) (l0 : List JX) (power : Nat) (keep : Int) (w : World) (hp : power < 65536) (hk : keep ≤ 9223372036854775807) (h0 : JDosAt w A0 c0 l0) :
    Calls Try.prog 3 #[.slice A0 l0.length c0, .int .u16 (power : Nat), .int .i64 keep] w fun e w' => e = .returned (.bool true) ∧ Below w.heap.size w w' := by
  have R0 := Lib.hid (jdos_at h0)
  have HSMALL := Lib.hid (jsmall_any A0 c0 l0 w h0)
  have hcp := h0.cap
  have hcm := h0.capm
  have hcm : c0 ≤ 9223372036854775807 := by unfold maxLen at hcm; omega
  have wpw : IntKind.i64.wrap (power : Int) = (power : Int) := IntWalk.i64_in _ (by omega)
  clear h0
  by_cases hsm : l0.length ≤ 30 ∧ jlong l0 ≤ 1000
  · rw [decide_eq_true hsm] at HSMALL
    obtain ⟨h30, h1000⟩ := hsm
    have HU := Lib.hid h1000
    clear h1000
    go_enter Try.func3, Try.ntmps3
    go_wp2_with fail
    refine HSMALL.out.mono ?_
    rintro e w' ⟨rfl, hw⟩
    have hw := hw.symm
    subst hw
    have HN := Lib.hid (new_ds w 3 100000)
    rw [show (DDk.new 3 100000) = jd zA zA zA 100000 from jd_new 100000 (by omega)] at HN
    clear HSMALL
    go_wp2_with fail
    refine HN.out.mono ?_
    rintro e w1 ⟨g, rfl, who1, hD1, ht1⟩
    obtain ⟨z1, z4, z5⟩ := kn_opens 100000
    have HO := Lib.hid (open_any _ _ _ _ _ _ _ hD1 (by omega) (by omega) rfl z4)
    have HT1 := Lib.hid (ht1.wider (Nat.le_refl 1) (show 27 ≤ 300 by omega))
    have Z1 := Lib.hid z1
    have Z5 := Lib.hid z5
    clear hD1 ht1 HN z1 z4 z5
    go_wp2_with fail
    refine HO.out.mono ?_
    rintro e w2 ⟨gj, A2', c2', B2, d2, rows, who2, rfl, hj2, ht2, _, _, _, _⟩
    rw [Z1.out, Z5.out] at hj2
    have hj2 : JS w.heap.size who2 w2 1 g gj (jd zA zA zA 100000) (0 + 1) 0 := hj2
    have HAR := Lib.hid (hj2.ds.arm (by omega) (power : Int))
    rw [jl_arm power hp] at HAR
    have HJ2 := Lib.hid hj2
    have HT2 := Lib.hid (HT1.out.trans (ht2.wider (Nat.le_refl 1) (show 28 ≤ 300 by omega)))
    clear hj2 ht2 HO HT1
    go_wp2_with fail
    refine HAR.out.mono ?_
    rintro e w3 ⟨rfl, hdp⟩
    obtain ⟨who3, hj3, ht3⟩ := HJ2.out.jp hdp
    have HJ3 := Lib.hid hj3
    have HT3 := Lib.hid (HT2.out.trans (ht3.wider (Nat.le_refl 1) (show 28 ≤ 300 by omega)))
    clear hj3 ht3 hdp HAR HJ2 HT2
    go_wp2_with fail
    go_loopw [12, 13, 14, 15] (fun sv rv yv iv wr => ∃ (i : Nat) (st a b : Bs) (As : Option Addr) (cs : Nat) (rows : List BX) (s k q N : Nat) (who : Nat → Nat), i ≤ l0.length ∧ iv = .int .i64 i ∧ yv = .int .i64 s ∧ sv = .slice As st.length cs ∧ Hid (SlotsP q st a b) ∧ Hid (JB i (jlong (l0.take i)) q a b (rows.map BX.b) s) ∧ Hid (N ≤ 20 * i + jlong (l0.take i) + 1) ∧ Hid (JS w.heap.size who wr 1 g gj (jp (sA a) (sA b) (logA q (rows.map BX.b) s) k) N q) ∧ Hid (MineAt w who wr rv rows) ∧ Hid (∀ W, Below w.heap.size w W → SlAt W As cs st) ∧ Hid (Turn 1 300 (fun _ => 0) w who wr)) (fun _ _ _ iv _ => l0.length - (intOf iv).toNat)
    case atStart => exact ⟨0, [], [], [], none, 0, [], 0, power, 0, 1, who3, Nat.zero_le _, rfl, rfl, rfl, slotsP_zero, (show JB 0 _ 0 [] [] _ 0 from ⟨Nat.le_refl _, Nat.zero_le _, Nat.zero_le _, Nat.zero_le _, Nat.zero_le _, Nat.zero_le _⟩), (show 1 ≤ 20 * 0 + jlong (l0.take 0) + 1 by omega), HJ3, MineAt.nil _ _ _, (show ∀ W, Below w.heap.size w W → SlAt W none 0 [] from fun W _ => SlAt.none W), HT3⟩
    case round =>
      obtain ⟨i, st, a, b, As, cs, rows, s, k, q, N, who, hi, rfl, rfl, rfl, HP, HJB, HN, HJ, HM, HS0, HT⟩ := hrel
      by_cases k1 : i < l0.length
      · obtain ⟨g0, o0, x, rfl, hx, hW⟩ := R0.out i k1
        have k2 : (i : Int) < (l0.length : Int) := by omega
        have k3 : (i : Int) < (c0 : Int) := by omega
        have HCX := Lib.hid (fun W hb => (hW W hb).1)
        have HCB := Lib.hid (fun W hb => (hW W hb).2.2.1)
        have HSX := Lib.hid (fun W hb => (hW W hb).2.2.2)
        have cx := HCX.out wr (HT.out.zero (by omega))
        have cb := HCB.out wr (HT.out.zero (by omega))
        have hsn := jlong_snoc hx
        have hle := jlong_take l0 (i + 1)
        have hU2 := HU.out
        have HXU := Lib.hid (show jlong (l0.take i) + 1 + x.b.length ≤ 1000 by omega)
        have HSN := Lib.hid hsn
        have hxl : x.b.length ≤ 1000 := by omega
        have HNB := Lib.hid (show N + 2 + (16 + x.b.length) ≤ 3000 by have := HN.out; omega)
        have hq31 := HJB.out.q
        have hst := HJB.out.s
        have hsn30 := HJB.out.n
        rw [List.length_map] at hst hsn30
        clear hsn hle hU2 hW hx
        by_cases K1 : x.k = 1
        · have K2 : ¬ x.k = 2 := by omega
          have K3 : ¬ x.k = 3 := by omega
          have HAP := Lib.hid (jappend_any HJ.out (by omega) (by have := HNB.out; omega) (HSX.out wr (HT.out.zero (by omega))) (by omega))
          by_cases hfit : (numbF q x.b).length ≤ k
          · obtain ⟨f1, f2, f3⟩ := jl_append HJB.out (by omega) x.b HXU.out hfit
            rw [f1, f2] at HAP
            have HJB5 := Lib.hid f3
            clear f1 f2 f3
            go_wp2_with fail
            refine HAP.out.mono ?_
            rintro e w5 ⟨rfl, who5, hj5, ht5⟩
            have ht5a := ht5
            have ht5 := HT.out.trans (ht5.wider (Nat.le_refl 1) (show 28 ≤ 300 by omega))
            have hM5 := HM.out.turn (lo := 1) (hi := 28) ht5a (by omega)
            obtain ⟨v6, w6, who6, hr6, hM6, ht6, hf6⟩ := hM5.one hj5.ds.fresh (ht5.zero (by omega)).size ⟨x.A, x.c, x.b⟩ (HSX.out w (Below.refl _ _)) (by show x.b.length ≤ _; omega) (by omega)
            have hj6 := hj5.turn ht6 hf6 (by omega) (.inr (by omega))
            have cb5 := HCB.out w5 (ht5.zero (by omega))
            dsimp only at hr6
            have HR6 := Lib.hid hr6
            have HM6 := Lib.hid hM6
            have HJ6 := Lib.hid hj6
            have HT6 := Lib.hid (ht5.trans (ht6.wider (show 1 ≤ 30 by omega) (show 56 ≤ 300 by omega)))
            have cx6 := HCX.out w6 (HT6.out.zero (by omega))
            clear hj5 ht5 ht5a HAP hM5 hr6 hM6 ht6 hf6 hj6
            go_wp2_with (at_builtin; refine wpList_appRun rfl _ _ rfl rfl rfl HR6.out ?_)
            go_roundw
            case rel => exact ⟨i + 1, st, a, b, As, cs, rows ++ [⟨x.A, x.c, x.b⟩], s, k - (numbF q x.b).length, q, N + (16 + x.b.length), who6, by omega, by go_num, rfl, rfl, HP.out, (show JB _ _ _ _ _ _ _ from by rw [HSN.out, List.map_append]; exact HJB5.out), (show N + (16 + x.b.length) ≤ _ from by have := HN.out; rw [HSN.out]; omega), (show JS _ _ _ _ _ _ _ _ _ from by rw [List.map_append]; exact HJ6.out), HM6, HS0, HT6⟩
            case measure => simp [intOf]; omega
          · obtain ⟨f1, L, t, hR, hok⟩ := jl_appendx HJB.out (by omega) x.b HXU.out HP.out hfit keep
            rw [f1] at HAP
            clear f1
            go_wp2_with fail
            refine HAP.out.mono ?_
            rintro e w5 ⟨rfl, who5, hj5, ht5⟩
            have ht5a := ht5
            have ht5 := HT.out.trans (ht5.wider (Nat.le_refl 1) (show 28 ≤ 300 by omega))
            have hM5 := HM.out.turn (lo := 1) (hi := 28) ht5a (by omega)
            obtain ⟨v6, w6, who6, hr6, hM6, ht6, hf6⟩ := hM5.one hj5.ds.fresh (ht5.zero (by omega)).size ⟨x.A, x.c, x.b⟩ (HSX.out w (Below.refl _ _)) (by show x.b.length ≤ _; omega) (by omega)
            have hj6 := hj5.turn ht6 hf6 (by omega) (.inr (by omega))
            have cb5 := HCB.out w5 (ht5.zero (by omega))
            dsimp only at hr6
            have HR6 := Lib.hid hr6
            have HM6 := Lib.hid hM6
            have HJ6 := Lib.hid hj6
            have HT6 := Lib.hid (ht5.trans (ht6.wider (show 1 ≤ 30 by omega) (show 56 ≤ 300 by omega)))
            have cx6 := HCX.out w6 (HT6.out.zero (by omega))
            clear hj5 ht5 ht5a HAP hM5 hr6 hM6 ht6 hf6 hj6
            go_wp2_with (at_builtin; refine wpList_appRun rfl _ _ rfl rfl rfl HR6.out ?_)
            have hok : okL st L st ((rows ++ [(⟨x.A, x.c, x.b⟩ : BX)]).map BX.b) s := by rw [List.map_append]; exact hok
            obtain ⟨rows6, hr6e⟩ : ∃ r, rows ++ [(⟨x.A, x.c, x.b⟩ : BX)] = r := ⟨_, rfl⟩
            rw [hr6e] at HM6 hok
            clear hr6e
            obtain ⟨Ar, cr, er, _⟩ := HM6.out.sl (HT6.out.zero (by omega))
            subst er
            have HL := Lib.hid (lasts_any (s := s) keep HJ6.out.ds (by omega) (by have := HNB.out; omega) hk hR (fun who' W ht => HS0.out W ((HT6.out.trans (ht.wider (Nat.le_refl 1) (show 1 + 27 ≤ 300 by omega))).zero (by omega))) (fun who' W ht => by
              obtain ⟨A', c', e', h'⟩ := (HM6.out.turn ht (by omega)).sl ((HT6.out.trans (ht.wider (Nat.le_refl 1) (show 1 + 27 ≤ 300 by omega))).zero (by omega))
              cases e'
              exact h') (by have := HJB.out.s; have := HJB.out.n; omega))
            rw [decide_eq_true hok] at HL
            clear hR hok
            go_wp2_with fail
            refine HL.out.mono ?_
            rintro e w8 ⟨rfl, who8, ht8, _⟩
            have HB8 := Lib.hid ((HT6.out.trans (ht8.wider (Nat.le_refl 1) (show 1 + 27 ≤ 300 by omega))).zero (by omega))
            have HK := Lib.hid (jknown_any w8)
            clear ht8 HL
            go_wp2_with fail
            refine HK.out.mono ?_
            rintro e w9 ⟨rfl, hb9⟩
            go_wp2_with fail
            go_ret
            exact ⟨rfl, HB8.out.trans (hb9.mono HB8.out.size)⟩
        · by_cases K2 : x.k = 2
          · have K3 : ¬ x.k = 3 := by omega
            have HS := Lib.hid (jsync_any HJ.out (by omega) (by have := HNB.out; omega))
            by_cases hfit : 1 ≤ k
            · obtain ⟨f1, f2⟩ := jl_sync HJB.out hfit
              rw [f1, f2] at HS
              clear f1 f2
              go_wp2_with fail
              refine HS.out.mono ?_
              rintro e w5 ⟨rfl, who5, hj5, ht5⟩
              have HM6 := Lib.hid (HM.out.turn (lo := 1) (hi := 28) ht5 (by omega))
              have HT6 := Lib.hid (HT.out.trans (ht5.wider (Nat.le_refl 1) (show 28 ≤ 300 by omega)))
              have HJ6 := Lib.hid hj5
              have cx5 := HCX.out w5 (HT6.out.zero (by omega))
              clear hj5 ht5 HS
              obtain ⟨Ar, cr, er, _⟩ := HM6.out.sl (HT6.out.zero (by omega))
              subst er
              go_wp2_with fail
              go_roundw
              case rel => exact ⟨i + 1, st, a, b, As, cs, rows, rows.length, k - 1, q, N, who5, by omega, by go_num, rfl, rfl, HP, (show JB _ _ _ _ _ _ _ from by have := HJB.out.all (V := jlong (l0.take (i + 1))) (by rw [HSN.out]; omega); rwa [List.length_map] at this), (show N ≤ _ from by have := HN.out; rw [HSN.out]; omega), (show JS _ _ _ _ _ _ _ _ _ from by have := HJ6.out; rwa [List.length_map] at this), HM6, HS0, HT6⟩
              case measure => simp [intOf]; omega
            · obtain ⟨f1, L, t, hR, hok⟩ := jl_syncx HJB.out (by omega) (by have := HXU.out; omega) HP.out hfit keep
              rw [f1] at HS
              clear f1
              go_wp2_with fail
              refine HS.out.mono ?_
              rintro e w5 ⟨rfl, who5, hj5, ht5⟩
              have HM6 := Lib.hid (HM.out.turn (lo := 1) (hi := 28) ht5 (by omega))
              have HT6 := Lib.hid (HT.out.trans (ht5.wider (Nat.le_refl 1) (show 28 ≤ 300 by omega)))
              have HJ6 := Lib.hid hj5
              have cx5 := HCX.out w5 (HT6.out.zero (by omega))
              clear hj5 ht5 HS
              obtain ⟨Ar, cr, er, _⟩ := HM6.out.sl (HT6.out.zero (by omega))
              subst er
              have HL := Lib.hid (lasts_any (s := s) keep HJ6.out.ds (by omega) (by have := HNB.out; omega) hk hR (fun who' W ht => HS0.out W ((HT6.out.trans (ht.wider (Nat.le_refl 1) (show 1 + 27 ≤ 300 by omega))).zero (by omega))) (fun who' W ht => by
                obtain ⟨A', c', e', h'⟩ := (HM6.out.turn ht (by omega)).sl ((HT6.out.trans (ht.wider (Nat.le_refl 1) (show 1 + 27 ≤ 300 by omega))).zero (by omega))
                cases e'
                exact h') (by have := HJB.out.s; have := HJB.out.n; omega))
              rw [decide_eq_true hok] at HL
              clear hR hok
              go_wp2_with fail
              refine HL.out.mono ?_
              rintro e w8 ⟨rfl, who8, ht8, _⟩
              have HB8 := Lib.hid ((HT6.out.trans (ht8.wider (Nat.le_refl 1) (show 1 + 27 ≤ 300 by omega))).zero (by omega))
              have HK := Lib.hid (jknown_any w8)
              clear ht8 HL
              go_wp2_with fail
              refine HK.out.mono ?_
              rintro e w9 ⟨rfl, hb9⟩
              go_wp2_with fail
              go_ret
              exact ⟨rfl, HB8.out.trans (hb9.mono HB8.out.size)⟩
          · by_cases K3 : x.k = 3
            · have HCP := Lib.hid (checkpoint_any HJ.out (by omega) (HSX.out wr (HT.out.zero (by omega))) (by omega) (by have := HNB.out; omega) (by omega))
              rcases jl_cp (k := k) HJB.out (by omega) x.b HXU.out HP.out keep with ⟨f1, f2, a', b', k', f3, f4, f5⟩ | ⟨f1, q', st', a', b', L, t, hR, hok⟩
              · rw [f1, f2, f3] at HCP
                have HP5 := Lib.hid f4
                have HJB5 := Lib.hid f5
                clear f1 f2 f3 f4 f5
                go_wp2_with fail
                refine HCP.out.mono ?_
                rintro e w5 ⟨rfl, who5, hj5, ht5⟩
                have HM6 := Lib.hid (HM.out.turn (lo := 1) (hi := 28) ht5 (by omega))
                have HT6 := Lib.hid (HT.out.trans (ht5.wider (Nat.le_refl 1) (show 28 ≤ 300 by omega)))
                have HJ6 := Lib.hid hj5
                have cx5 := HCX.out w5 (HT6.out.zero (by omega))
                clear hj5 ht5 HCP
                have cb5 := HCB.out w5 (HT6.out.zero (by omega))
                go_wp2_with fail
                go_roundw
                case rel => exact ⟨i + 1, x.b, a', b', x.A, x.c, [], 0, k', q + 1, N + 2 + (16 + x.b.length), who5, by omega, by go_num, rfl, rfl, HP5, (show JB _ _ _ _ _ _ _ from by rw [HSN.out]; exact HJB5.out), (show N + 2 + (16 + x.b.length) ≤ _ from by have := HN.out; rw [HSN.out]; omega), HJ6, MineAt.nil _ _ _, HSX, HT6⟩
                case measure => simp [intOf]; omega
              · rw [f1] at HCP
                clear f1
                go_wp2_with fail
                refine HCP.out.mono ?_
                rintro e w5 ⟨rfl, who5, hj5, ht5⟩
                have HM6 := Lib.hid (HM.out.turn (lo := 1) (hi := 28) ht5 (by omega))
                have HT6 := Lib.hid (HT.out.trans (ht5.wider (Nat.le_refl 1) (show 28 ≤ 300 by omega)))
                have HJ6 := Lib.hid hj5
                have cx5 := HCX.out w5 (HT6.out.zero (by omega))
                clear hj5 ht5 HCP
                have HCY := Lib.hid (copy_any w.heap.size who5 w5 1 60 g _ _ HJ6.out.ds (by have := HNB.out; omega) (by omega))
                go_wp2_with fail
                refine HCY.out.mono ?_
                rintro e w6 ⟨gc, rfl, who6, hdc, hb6, hsame⟩
                have ht6 : Turn 60 87 who5 w5 who6 w6 := ⟨hb6.os, hb6.tape, hb6.output, hb6.size, fun b hb _ => hb6.block b hb, hsame⟩
                have HD7 := Lib.hid (ds_turn HJ6.out.ds ht6 hdc.fresh (by omega) (.inr (by omega)))
                have HM7 := Lib.hid (HM6.out.turn ht6 (by omega))
                have HT7 := Lib.hid (HT6.out.trans (ht6.wider (by omega) (show 87 ≤ 300 by omega)))
                have HDC := Lib.hid hdc
                clear ht6 hdc hb6 hsame HCY HJ6 HM6 HT6
                obtain ⟨Ar, cr, er, _⟩ := HM7.out.sl (HT7.out.zero (by omega))
                subst er
                have HL1 := Lib.hid (lasts_any (s := s) keep HDC.out (by omega) (by have := HNB.out; omega) hk hR (fun who' W ht => HS0.out W ((HT7.out.trans (ht.wider (show 1 ≤ 60 by omega) (show 60 + 27 ≤ 300 by omega))).zero (by omega))) (fun who' W ht => by
                  obtain ⟨A', c', e', h'⟩ := (HM7.out.turn ht (by omega)).sl ((HT7.out.trans (ht.wider (show 1 ≤ 60 by omega) (show 60 + 27 ≤ 300 by omega))).zero (by omega))
                  cases e'
                  exact h') (by omega))
                by_cases hok1 : okL st' L st (rows.map BX.b) s
                · rw [decide_eq_true hok1] at HL1
                  clear hR hok hok1
                  go_wp2_with fail
                  refine HL1.out.mono ?_
                  rintro e w8 ⟨rfl, who8, ht8, _⟩
                  have HB8 := Lib.hid ((HT7.out.trans (ht8.wider (show 1 ≤ 60 by omega) (show 60 + 27 ≤ 300 by omega))).zero (by omega))
                  have HK := Lib.hid (jknown_any w8)
                  clear ht8 HL1
                  go_wp2_with fail
                  refine HK.out.mono ?_
                  rintro e w9 ⟨rfl, hb9⟩
                  go_wp2_with fail
                  go_ret
                  exact ⟨rfl, HB8.out.trans (hb9.mono HB8.out.size)⟩
                · have hok2 := hok.resolve_left hok1
                  rw [decide_eq_false hok1] at HL1
                  go_wp2_with fail
                  refine HL1.out.mono ?_
                  rintro e w8 ⟨rfl, who8, ht8, hf8⟩
                  have HT8 := Lib.hid (HT7.out.trans (ht8.wider (show 1 ≤ 60 by omega) (show 60 + 27 ≤ 300 by omega)))
                  have hd8 := ds_turn HD7.out ht8 hf8 (by omega) (.inr (by omega))
                  have cb8 := HCB.out w8 (HT8.out.zero (by omega))
                  have HL := Lib.hid (lasts_any (s := 0) (rows := []) (cr := 0) (Ar := none) keep hd8 (by omega) (by have := HNB.out; omega) hk hR (fun who' W ht => HSX.out W ((HT8.out.trans (ht.wider (Nat.le_refl 1) (show 1 + 27 ≤ 300 by omega))).zero (by omega))) (fun who' W ht => BRowAt.nil _ _ _ (Nat.zero_le _)) (by omega))
                  rw [decide_eq_true (show okL st' L x.b (([] : List BX).map BX.b) 0 from hok2)] at HL
                  clear hR hok hok1 hok2 ht8 hf8 hd8 HL1
                  go_wp2_with fail
                  refine HL.out.mono ?_
                  rintro e w8 ⟨rfl, who8, ht8, _⟩
                  have HB8 := Lib.hid ((HT8.out.trans (ht8.wider (Nat.le_refl 1) (show 1 + 27 ≤ 300 by omega))).zero (by omega))
                  have HK := Lib.hid (jknown_any w8)
                  clear ht8 HL
                  go_wp2_with fail
                  refine HK.out.mono ?_
                  rintro e w9 ⟨rfl, hb9⟩
                  go_wp2_with fail
                  go_ret
                  exact ⟨rfl, HB8.out.trans (hb9.mono HB8.out.size)⟩
            · go_wp2_with fail
              go_roundw
              case rel => exact ⟨i + 1, st, a, b, As, cs, rows, s, k, q, N, who, by omega, by go_num, rfl, rfl, HP, (show JB _ _ _ _ _ _ _ from HJB.out.more (by rw [HSN.out]; omega)), (show N ≤ _ from by have := HN.out; rw [HSN.out]; omega), HJ, HM, HS0, HT⟩
              case measure => simp [intOf]; omega
      · obtain rfl : i = l0.length := by omega
        obtain ⟨L, t, hR, hok⟩ := jl_end (k := k) HJB.out (by omega) (by have := HU.out; have := jlong_take l0 l0.length; omega) HP.out keep
        have HNB := Lib.hid (show N ≤ 3000 by have := HN.out; have := HU.out; have := jlong_take l0 l0.length; omega)
        have HJ6 := HJ
        have HM6 := HM
        have HT6 := HT
        have hst := HJB.out.s
        have hsn30 := HJB.out.n
        rw [List.length_map] at hst hsn30
        obtain ⟨Ar, cr, er, _⟩ := HM6.out.sl (HT6.out.zero (by omega))
        subst er
        have HL := Lib.hid (lasts_any (s := s) keep HJ6.out.ds (by omega) (by have := HNB.out; omega) hk hR (fun who' W ht => HS0.out W ((HT6.out.trans (ht.wider (Nat.le_refl 1) (show 1 + 27 ≤ 300 by omega))).zero (by omega))) (fun who' W ht => by
          obtain ⟨A', c', e', h'⟩ := (HM6.out.turn ht (by omega)).sl ((HT6.out.trans (ht.wider (Nat.le_refl 1) (show 1 + 27 ≤ 300 by omega))).zero (by omega))
          cases e'
          exact h') (by have := HJB.out.s; have := HJB.out.n; omega))
        rw [decide_eq_true hok] at HL
        clear hR hok
        go_wp2_with fail
        refine HL.out.mono ?_
        rintro e w8 ⟨rfl, who8, ht8, _⟩
        have HB8 := Lib.hid ((HT6.out.trans (ht8.wider (Nat.le_refl 1) (show 1 + 27 ≤ 300 by omega))).zero (by omega))
        have HK := Lib.hid (jknown_any w8)
        clear ht8 HL
        go_wp2_with fail
        refine HK.out.mono ?_
        rintro e w9 ⟨rfl, hb9⟩
        go_wp2_with fail
        go_ret
        exact ⟨rfl, HB8.out.trans (hb9.mono HB8.out.size)⟩
  · rw [decide_eq_false hsm] at HSMALL
    go_enter Try.func3, Try.ntmps3
    go_wp2_with fail
    refine HSMALL.out.mono ?_
    rintro e w' ⟨rfl, hw⟩
    have hw := hw.symm
    subst hw
    have HK := Lib.hid (jknown_any w)
    go_wp2_with fail
    refine HK.out.mono ?_
    rintro e w9 ⟨rfl, hb9⟩
    go_wp2_with fail
    go_ret
    exact ⟨rfl, hb9⟩
end Go.Proofs.Ytojkifcclgecoaa
