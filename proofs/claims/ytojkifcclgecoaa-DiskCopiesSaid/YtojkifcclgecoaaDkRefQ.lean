/-
  The document's own Append.
-/
import Derived.Test.YtojkifcclgecoaaDkRefP
import Derived.Test.YtojkifcclgecoaaLast
namespace Go.Proofs.Ytojkifcclgecoaa.Dk
open Go Go.RowKit Go.Shelf Go.Proofs

/-- Bytes, one by one, as long as there is power. -/
def appF : DDk → Nat → List UInt8 → DDk
  | d, _, [] => d
  | d, i, x :: b => if d.dead then d else appF (putD d i (.byte x)) i b
theorem addAt_nil (l : List DAr) (i : Nat) : addAt l i [] = l := by
  unfold addAt
  apply List.ext_getElem?
  intro j
  rw [List.getElem?_modify]
  split
  · cases l[j]? <;> simp
  · cases l[j]? <;> rfl
theorem addAt_add (l : List DAr) (i : Nat) (s t : List DSt) : addAt (addAt l i s) i t = addAt l i (s ++ t) := by
  unfold addAt
  apply List.ext_getElem?
  intro j
  rw [List.getElem?_modify, List.getElem?_modify, List.getElem?_modify]
  split
  · cases l[j]? <;> simp
  · cases l[j]? <;> rfl
theorem appF_dead {d : DDk} (h : d.dead = true) (i : Nat) (b : List UInt8) : appF d i b = d := by
  cases b with
  | nil => rfl
  | cons x b => unfold appF; rw [if_pos h]
theorem appF_eq : ∀ (b : List UInt8) (d : DDk) (i : Nat), d.dead = false → appF d i b = d.append i b
  | [], ⟨L, room, pw, dead⟩, i, h => by
    obtain rfl : dead = false := h
    unfold appF DDk.append DDk.after DDk.spend DDk.add
    cases pw with
    | none => simp only [List.take_nil, List.map_nil, addAt_nil]
    | some k => simp only [List.take_nil, List.map_nil, addAt_nil, List.length_nil, Nat.zero_min, Nat.sub_zero, Nat.lt_irrefl, decide_false]
  | x :: b, ⟨L, room, pw, dead⟩, i, h => by
    obtain rfl : dead = false := h
    unfold appF
    rw [if_neg Bool.false_ne_true]
    cases pw with
    | none =>
      have e : putD ⟨L, room, none, false⟩ i (.byte x) = ⟨addAt L i [.byte x], room, none, false⟩ := rfl
      rw [e, appF_eq b _ i rfl]
      unfold DDk.append DDk.after DDk.spend DDk.add
      simp only [List.take_length, addAt_add]
      rfl
    | some k =>
      cases k with
      | zero =>
        have e : putD ⟨L, room, some 0, false⟩ i (.byte x) = ⟨L, room, some 0, true⟩ := rfl
        rw [e, appF_dead rfl]
        unfold DDk.append DDk.after DDk.spend DDk.add
        simp only [Nat.min_zero, List.take_zero, List.map_nil, addAt_nil, List.length_cons, Nat.zero_lt_succ, decide_true, Nat.sub_zero]
      | succ k =>
        have e : putD ⟨L, room, some (k + 1), false⟩ i (.byte x) = ⟨addAt L i [.byte x], room, some k, false⟩ := rfl
        rw [e, appF_eq b _ i rfl]
        unfold DDk.append DDk.after DDk.spend DDk.add
        have e1 : min (b.length + 1) (k + 1) = min b.length k + 1 := by omega
        have e2 : k + 1 - (min b.length k + 1) = k - min b.length k := by omega
        have e3 : decide (min b.length k + 1 < b.length + 1) = decide (min b.length k < b.length) := decide_eq_decide.2 (by omega)
        simp only [addAt_add, List.length_cons, e1, e2, e3, List.take_succ_cons, List.map_cons]
        rfl
theorem put_parts (d : DDk) (i : Nat) (s : DSt) : (putD d i s).as.length = d.as.length ∧ (putD d i s).room = d.room := by
  obtain ⟨e1, e2⟩ := unit_parts d
  unfold putD
  split
  · exact ⟨by show (addAt _ _ _).length = _; unfold addAt; rw [List.length_modify, e1], e2⟩
  · exact ⟨by rw [e1], e2⟩
theorem put_fits {d : DDk} {n : Nat} (h : d.fits n) (i : Nat) (s : DSt) : (putD d i s).fits (n + 1) := by
  have hu := unit_fits h
  unfold putD
  split
  · refine ⟨by show (addAt _ _ _).length ≤ 8; unfold addAt; rw [List.length_modify]; exact hu.1, hu.2.1, hu.2.2.1, fun a ha => ?_⟩
    obtain ⟨j, hj⟩ := List.mem_iff_getElem?.1 (show a ∈ addAt (unitD d).as i [s] from ha)
    unfold addAt at hj
    rw [List.getElem?_modify] at hj
    cases hx : (unitD d).as[j]? with
    | none => rw [hx] at hj; split at hj <;> cases hj
    | some y =>
      have hy := hu.2.2.2 y (List.mem_of_getElem? hx)
      rw [hx] at hj
      split at hj
      · cases hj; show y.l.length + (y.p ++ [s]).length ≤ _; rw [List.length_append, List.length_singleton]; omega
      · cases hj; show y.l.length + y.p.length ≤ _; omega
  · exact hu.mono (by omega)
/-- A disk, and an error, are given; the disk stands on what is fresh and on the areas of t. -/
def RPE (w : World) (t : RT) (d : DDk) (x : Nat) (e : Ending) (w' : World) : Prop := ∃ t', e = .returned (.tuple #[RT.v t' d, .int .i64 (x : Nat)]) ∧ Below w.heap.size w w' ∧ ∀ W : World, (∀ b, w.heap.size ≤ b → b < w'.heap.size → W.heap[b]? = w'.heap[b]?) → RAreas W t.A t.c t.R → RefAt W t' d
/-- What a disk stands on while it is made. -/
def Stand (n0 : Nat) (w : World) (t0 t : RT) (d : DDk) : Prop := ∀ W : World, (∀ b, n0 ≤ b → b < w.heap.size → W.heap[b]? = w.heap[b]?) → RAreas W t0.A t0.c t0.R → RefAt W t d
theorem Stand.below {n0 : Nat} {w w' : World} {t0 t : RT} {d : DDk} (h : Stand n0 w t0 t d) (hb : Below w.heap.size w w') : Stand n0 w' t0 t d := fun W hW hR => h W (fun b h1 h2 => (hW b h1 (Nat.lt_of_lt_of_le h2 hb.size)).trans (hb.block b h2)) hR
theorem Stand.only {n0 g : Nat} {w w' : World} {t0 t : RT} {d : DDk} (h : Stand n0 w t0 t d) (ho : OnlyB w g w') (hg : g < n0) : Stand n0 w' t0 t d := fun W hW hR => h W (fun b h1 h2 => (hW b h1 (by rw [ho.size]; exact h2)).trans (ho.block b (by omega))) hR
theorem Stand.put {n0 : Nat} {w w' : World} {t0 t t' : RT} {d d' : DDk} (h : Stand n0 w t0 t d) (hn : n0 ≤ w.heap.size) (hb : Below w.heap.size w w') (hp : ∀ W : World, (∀ b, w.heap.size ≤ b → b < w'.heap.size → W.heap[b]? = w'.heap[b]?) → RAreas W t.A t.c t.R → RefAt W t' d') : Stand n0 w' t0 t' d' := fun W hW hR =>
  hp W (fun b h1 h2 => hW b (by omega) h2) (h.below hb W hW hR).areas
theorem Stand.here {n0 : Nat} {w : World} {t0 t : RT} {d : DDk} (h : Stand n0 w t0 t d) (hR : RAreas w t0.A t0.c t0.R) : RefAt w t d := h w (fun _ _ _ => rfl) hR
theorem only_below {w w5 w6 : World} {g : Nat} (hb : Below w.heap.size w w5) (ho : OnlyB w5 g w6) (hg : w.heap.size ≤ g) : Below w.heap.size w w6 :=
  ⟨ho.os.trans hb.os, ho.tape.trans hb.tape, ho.output.trans hb.output, by rw [ho.size]; exact hb.size, fun q hq => (ho.block q (by omega)).trans (hb.block q hq)⟩
theorem may_state {d : DDk} {i : Nat} (h : i < d.as.length) : d.may (i : Int) = d.state := by
  unfold DDk.may
  rw [if_pos (by unfold DDk.has; simp; omega)]
/-- The cells of a disk of the document's. -/
def RT.cs (t : RT) (d : DDk) : Array Value := #[.slice t.A t.R.length t.c, .int .i64 (d.room : Int), .bool d.pw.isSome, .int .i64 t.q, .bool d.dead]
def zcs : Array Value := #[.slice none 0 0, .int .i64 0, .bool false, .int .i64 0, .bool false]
theorem results_ct {P : Program} {fn : Func} {p u : Tmp} {ty : TypeId} (h : fn.results = #[.cell p ty, .tmp u]) (tmps : Array Value) (w : World) (g : Nat) (t : TypeId) (cs : Array Value) (fr : Nat × Nat) (d : TypeDesc)
    (v : Value) (hp : tmps.getD p undef = .pointer (some ⟨g, 0, none⟩)) (hv : tmps.getD u undef = v) (hg : w.heap[g]? = some (.cells cs t fr))
    (hu : P.underlying ty = some d) (hd : (match d with | .struct _ | .array _ _ => true | _ => false) = true) (hi : (P.info? ty).map (·.size) = some cs.size) :
    (results fn tmps).run P w = .ok (.tuple #[.agg cs, v]) w := by
  subst hv
  have hp' : tmps[p]?.getD undef = .pointer (some ⟨g, 0, none⟩) := by simpa using hp
  simp [results, h, hp', asAddr, run_loadVar_row w g t ty cs fr d hg hu hd hi]
theorem jn_drewn (w : World) : Below w.heap.size w w.drew := ⟨rfl, rfl, rfl, Nat.le_refl _, fun _ _ => rfl⟩
set_option maxRecDepth 100000 in
set_option maxHeartbeats 16000000 in
theorem rappend_any (w : World) (t : RT) (d : DDk) (a : Int) (n : Nat) (A : Option Addr) (c m : Nat) (b : Bs) (h : RefAt w t d) (hd : d.fits n) (hs : SlAt w A c b) (hm : b.length = m) (hn : n + m ≤ 100000) :
    Calls Try.prog 61 #[RT.v t d, .int .i64 a, .slice A m c] w (RPE w t (appendD d a b) (appendE d a b)) := by
  obtain ⟨TA, TC, TR, TQ⟩ := t
  obtain ⟨V1, hV1⟩ : ∃ V, w.alloc (.cells #[.slice TA TR.length TC, .int .i64 (d.room : Int), .bool d.pw.isSome, .int .i64 TQ, .bool d.dead] 57) = V := ⟨_, rfl⟩
  obtain ⟨V2, hV2⟩ : ∃ V, V1.alloc (.cells #[.slice none 0 0, .int .i64 0, .bool false, .int .i64 0, .bool false] 57) = V := ⟨_, rfl⟩
  have hb1 : Below w.heap.size w V1 := by rw [← hV1]; exact (Below.refl _ _).alloc (Nat.le_refl _) _
  have hb2 : Below V1.heap.size V1 V2 := by rw [← hV2]; exact (Below.refl _ _).alloc (Nat.le_refl _) _
  have s1 : V1.heap.size = w.heap.size + 1 := by rw [← hV1]; simp
  have s2 : V2.heap.size = w.heap.size + 2 := by rw [← hV2]; simp [s1]
  have hbV : Below w.heap.size w V2 := hb1.trans (hb2.mono (by omega))
  have z0 : V2.heap[w.heap.size]? = some (.cells #[.slice TA TR.length TC, .int .i64 (d.room : Int), .bool d.pw.isSome, .int .i64 TQ, .bool d.dead] 57 (0, 0)) := (hb2.block _ (by omega)).trans (by rw [← hV1]; exact heap_alloc_new w _)
  have z1 : V2.heap[w.heap.size + 1]? = some (.cells #[.slice none 0 0, .int .i64 0, .bool false, .int .i64 0, .bool false] 57 (0, 0)) := by rw [← s1, ← hV2]; exact heap_alloc_new V1 _
  have HV := Lib.hid (show (w.alloc (.cells #[.slice TA TR.length TC, .int .i64 (d.room : Int), .bool d.pw.isSome, .int .i64 TQ, .bool d.dead] 57)).alloc (.cells #[.slice none 0 0, .int .i64 0, .bool false, .int .i64 0, .bool false] 57) = V2 by rw [hV1, hV2])
  have hmay := rmay_any V2 ⟨TA, TC, TR, TQ⟩ d a n (h.below hbV) hd
  unfold RT.v at hmay ⊢
  dsimp only at hmay ⊢
  have HH := Lib.hid h
  have HD := Lib.hid hd
  have h8 : TR.length ≤ 8 := by have h1 : d.as.length = TR.length := h.len; have h2 := hd.1; omega
  obtain ⟨E, hE⟩ : ∃ E, d.may a = E := ⟨_, rfl⟩
  have hE10 : E ≤ 10 := by rw [← hE]; unfold DDk.may DDk.state stateN; split <;> (try split) <;> omega
  rw [hE] at hmay
  have HME := Lib.hid hE
  have HMAY := Lib.hid hmay
  have HBV := Lib.hid hbV
  have Z0 := Lib.hid z0
  have Z1 := Lib.hid z1
  clear hmay h hd hV1 hV2 hb1 hb2 s1 hbV z0 z1 hE
  obtain ⟨DD, hDD⟩ : ∃ D, appendD d a b = D := ⟨_, rfl⟩
  obtain ⟨EE, hEE⟩ : ∃ E, appendE d a b = E := ⟨_, rfl⟩
  rw [hDD, hEE]
  have HDD := Lib.hid hDD.symm
  have HEE := Lib.hid hEE.symm
  clear hDD hEE
  have HSL := Lib.hid hs
  have hcap := hs.cap
  have hcm := hs.c63
  clear hs
  go_enter Try.func61, Try.ntmps61
  go_wp2_with fail
  rw [HV.out]
  refine HMAY.out.mono ?_
  rintro e w1 ⟨rfl, hb1⟩
  have hbw1 := HBV.out.trans (hb1.mono (by omega))
  have p0 := (hb1.block _ (by omega)).trans Z0.out
  have p1 := (hb1.block _ (by omega)).trans Z1.out
  have hs1 := hb1.size
  have x0 := cell_of_row w1 w.heap.size 0 _ _ _ p0
  have x1 := cell_of_row w1 w.heap.size 1 _ _ _ p0
  have x2 := cell_of_row w1 w.heap.size 2 _ _ _ p0
  have x3 := cell_of_row w1 w.heap.size 3 _ _ _ p0
  have x4 := cell_of_row w1 w.heap.size 4 _ _ _ p0
  by_cases hE0 : E = 0
  · subst hE0
    have HUS := Lib.hid (rused_any w1.drew ⟨TA, TC, TR, TQ⟩ d n (HH.out.below (hbw1.trans ((jn_drewn w1).mono hbw1.size))) HD.out (by omega))
    have hu8 := DDk.used_le HD.out
    have hro := HD.out.2.1
    obtain ⟨U, hU⟩ : ∃ U, d.used = U := ⟨_, rfl⟩
    have HU := Lib.hid hU
    rw [hU] at HUS hu8
    unfold RT.v at HUS
    dsimp only at HUS
    have wum : IntKind.i64.wrap ((U : Int) + (m : Int)) = (U : Int) + (m : Int) := IntWalk.i64_in _ (by omega)
    obtain ⟨FL, hFL⟩ : ∃ FL, decide ((U : Int) + (m : Int) > (d.room : Int)) = FL := ⟨_, rfl⟩
    clear hU
    go_wp2_with fail
    refine wp_region_held_drew (S := (fun w' => w'.cell? ⟨w.heap.size, 0, none⟩ = some (.slice TA TR.length TC) ∧ w'.cell? ⟨w.heap.size, 1, none⟩ = some (.int .i64 (d.room : Int)) ∧ w'.cell? ⟨w.heap.size, 2, none⟩ = some (.bool d.pw.isSome) ∧ w'.cell? ⟨w.heap.size, 3, none⟩ = some (.int .i64 TQ) ∧ w'.cell? ⟨w.heap.size, 4, none⟩ = some (.bool d.dead))) (by kernel_rfl) ⟨x0, x1, x2, x3, x4⟩ (fun hHeld => ?_)
    refine wpAnyH_take (i := 0) (v := ?vp0) rfl (by kernel_rfl) (by kernel_rfl) (by kernel_rfl) (fun _ _ _ h => h) (Or.inl ⟨by rfl, ?yp0⟩) (by assumption) ?rp0
    case yp0 =>
      intro w hSw
      (try dsimp only at hSw)
      go_simp
      first | done | with_reducible rfl
    try simp only [Act.put, List.getElem_toArray, List.getElem_cons_zero, List.setIfInBounds_toArray, List.set_cons_zero, List.set_cons_succ]
    refine wpAnyH_take (i := 1) (v := ?vp1) rfl (by kernel_rfl) (by kernel_rfl) (by kernel_rfl) (fun _ _ _ h => h) (Or.inl ⟨by rfl, ?yp1⟩) (by assumption) ?rp1
    case yp1 =>
      intro w hSw
      (try dsimp only at hSw)
      go_simp
      first | done | with_reducible rfl
    try simp only [Act.put, List.getElem_toArray, List.getElem_cons_zero, List.getElem_cons_succ, List.setIfInBounds_toArray, List.set_cons_zero, List.set_cons_succ]
    refine wpAnyH_take (i := 2) (v := ?vp2) rfl (by kernel_rfl) (by kernel_rfl) (by kernel_rfl) (fun _ _ _ h => h) (Or.inl ⟨by rfl, ?yp2⟩) (by assumption) ?rp2
    case yp2 =>
      intro w hSw
      (try dsimp only at hSw)
      go_simp
      first | done | with_reducible rfl
    try simp only [Act.put, List.getElem_toArray, List.getElem_cons_zero, List.getElem_cons_succ, List.setIfInBounds_toArray, List.set_cons_zero, List.set_cons_succ]
    refine wpAnyH_take (i := 3) (v := ?vp3) rfl (by kernel_rfl) (by kernel_rfl) (by kernel_rfl) (fun _ _ _ h => h) (Or.inl ⟨by rfl, ?yp3⟩) (by assumption) ?rp3
    case yp3 =>
      intro w hSw
      (try dsimp only at hSw)
      go_simp
      first | done | with_reducible rfl
    try simp only [Act.put, List.getElem_toArray, List.getElem_cons_zero, List.getElem_cons_succ, List.setIfInBounds_toArray, List.set_cons_zero, List.set_cons_succ]
    refine wpAnyH_take (i := 5) (v := ?vp5) rfl (by kernel_rfl) (by kernel_rfl) (by kernel_rfl) (fun _ _ _ h => h) (Or.inl ⟨by rfl, ?yp5⟩) (by assumption) ?rp5
    case yp5 =>
      intro w hSw
      (try dsimp only at hSw)
      go_simp
      first | done | with_reducible rfl
    try simp only [Act.put, List.getElem_toArray, List.getElem_cons_zero, List.getElem_cons_succ, List.setIfInBounds_toArray, List.set_cons_zero, List.set_cons_succ]
    refine wpAnyH_take (i := 6) (v := ?vp6) rfl (by kernel_rfl) (by kernel_rfl) (by kernel_rfl) (fun _ _ _ h => h) (Or.inl ⟨by rfl, ?yp6⟩) (by assumption) ?rp6
    case yp6 =>
      intro w hSw
      (try dsimp only at hSw)
      go_simp
      first | done | with_reducible rfl
    try simp only [Act.put, List.getElem_toArray, List.getElem_cons_zero, List.getElem_cons_succ, List.setIfInBounds_toArray, List.set_cons_zero, List.set_cons_succ]
    refine wpAnyH_take (i := 8) (v := ?vp8) rfl (by kernel_rfl) (by kernel_rfl) (by kernel_rfl) (fun _ _ _ h => h) (Or.inl ⟨by rfl, ?yp8⟩) (by assumption) ?rp8
    case yp8 =>
      intro w hSw
      (try dsimp only at hSw)
      go_simp
      first | done | with_reducible rfl
    try simp only [Act.put, List.getElem_toArray, List.getElem_cons_zero, List.getElem_cons_succ, List.setIfInBounds_toArray, List.set_cons_zero, List.set_cons_succ]
    refine wpAnyH_take (i := 9) (v := ?vp9) rfl (by kernel_rfl) (by kernel_rfl) (by kernel_rfl) (fun _ _ _ h => h) (Or.inl ⟨by rfl, ?yp9⟩) (by assumption) ?rp9
    case yp9 =>
      intro w hSw
      (try dsimp only at hSw)
      go_simp
      first | done | with_reducible rfl
    try simp only [Act.put, List.getElem_toArray, List.getElem_cons_zero, List.getElem_cons_succ, List.setIfInBounds_toArray, List.set_cons_zero, List.set_cons_succ]
    refine wpAnyH_ready (rs := [4]) (by kernel_rfl) (by simp) ?_
    refine AllReadyH.cons rfl (fun K hK => ?_) AllReadyH.nil
    go_simp
    refine HUS.out.mono ?_
    rintro e w2 ⟨rfl, hb2'⟩
    have hb2 : Below w1.heap.size w1 w2 := (jn_drewn w1).trans hb2'
    have hbw2 := hbw1.trans (hb2.mono hbw1.size)
    have q0 := (hb2.block _ (by omega)).trans p0
    have q1 := (hb2.block _ (by omega)).trans p1
    have y0 := cell_of_row w2 w.heap.size 0 _ _ _ q0
    have y1 := cell_of_row w2 w.heap.size 1 _ _ _ q0
    have y2 := cell_of_row w2 w.heap.size 2 _ _ _ q0
    have y3 := cell_of_row w2 w.heap.size 3 _ _ _ q0
    have y4 := cell_of_row w2 w.heap.size 4 _ _ _ q0
    have hs2 := hb2.size
    clear hb2' x0 x1 x2 x3 x4
    go_wp2_with fail
    refine hK.out _ _ ⟨y0, y1, y2, y3, y4⟩ (fun hHeld => ?_)
    clear hK K
    try simp only [Act.put, List.getElem_toArray, List.getElem_cons_zero, List.getElem_cons_succ, List.setIfInBounds_toArray, List.set_cons_zero, List.set_cons_succ]
    refine wpAnyH_take (i := 7) (v := ?vp7) rfl (by kernel_rfl) (by kernel_rfl) (by kernel_rfl) (fun _ _ _ h => h) (Or.inl ⟨by rfl, ?yp7⟩) (by assumption) ?rp7
    case yp7 =>
      intro w hSw
      (try dsimp only at hSw)
      go_simp
      first | done | with_reducible rfl
    try simp only [Act.put, List.getElem_toArray, List.getElem_cons_zero, List.getElem_cons_succ, List.setIfInBounds_toArray, List.set_cons_zero, List.set_cons_succ]
    refine wpAnyH_take (i := 10) (v := ?vp10) rfl (by kernel_rfl) (by kernel_rfl) (by kernel_rfl) (fun _ _ _ h => h) (Or.inl ⟨by rfl, ?yp10⟩) (by assumption) ?rp10
    case yp10 =>
      intro w hSw
      (try dsimp only at hSw)
      go_simp
      first | done | with_reducible rfl
    try simp only [Act.put, List.getElem_toArray, List.getElem_cons_zero, List.getElem_cons_succ, List.setIfInBounds_toArray, List.set_cons_zero, List.set_cons_succ]
    refine wpAnyH_take (i := 11) (v := ?vp11) rfl (by kernel_rfl) (by kernel_rfl) (by kernel_rfl) (fun _ _ _ h => h) (Or.inl ⟨by rfl, ?yp11⟩) (by assumption) ?rp11
    case yp11 =>
      intro w hSw
      (try dsimp only at hSw)
      go_simp
      first | done | with_reducible rfl
    try simp only [Act.put, List.getElem_toArray, List.getElem_cons_zero, List.getElem_cons_succ, List.setIfInBounds_toArray, List.set_cons_zero, List.set_cons_succ]
    refine wpAnyH_done (by kernel_rfl) ?_ _
    by_cases hfull : d.room < U + m
    · obtain rfl : FL = true := hFL.symm.trans (decide_eq_true (by omega))
      have HEE := Lib.hid (show EE = 8 from by rw [HEE.out]; unfold appendE; rw [HME.out, if_neg (by omega), HU.out, hm, if_pos hfull])
      have HDD := Lib.hid (show DD = d from by rw [HDD.out]; unfold appendD; rw [HME.out, if_neg (by omega), HU.out, hm, if_pos hfull])
      have c0 := cell_of_row w2 w.heap.size 0 _ _ _ q0
      have c1 := cell_of_row w2 w.heap.size 1 _ _ _ q0
      have c2 := cell_of_row w2 w.heap.size 2 _ _ _ q0
      have c3 := cell_of_row w2 w.heap.size 3 _ _ _ q0
      have c4 := cell_of_row w2 w.heap.size 4 _ _ _ q0
      obtain ⟨Y, hY, hY1, hY2, r0, r1, r2, r3, r4, f0, f1, f2, f3, f4⟩ := ret5 q1 (.slice TA TR.length TC) (.int .i64 (d.room : Int)) (.bool d.pw.isSome) (.int .i64 TQ) (.bool d.dead)
      have HY := Lib.hid hY
      have HY1 := Lib.hid hY1
      have hbY : Below w.heap.size w Y := ⟨hY2.os.trans hbw2.os, hY2.tape.trans hbw2.tape, hY2.output.trans hbw2.output, by rw [hY2.size]; exact hbw2.size, fun q hq => (hY2.block q (by omega)).trans (hbw2.block q hq)⟩
      have HFIN := Lib.hid (show RPE w ⟨TA, TC, TR, TQ⟩ DD EE (.returned (.tuple #[.agg #[.slice TA TR.length TC, .int .i64 (d.room : Int), .bool d.pw.isSome, .int .i64 TQ, .bool d.dead], .int .i64 (8 : Nat)])) Y from by
        rw [HDD.out, HEE.out]
        exact ⟨⟨TA, TC, TR, TQ⟩, rfl, hbY, fun W _ hW => ⟨hW, HH.out.as_, HH.out.q⟩⟩)
      clear hY hY1 hY2 hbY
      go_wp2_with fail
      rw [HY.out]
      exact bodyPost_ret (results_ct rfl _ _ _ _ _ (0, 0) _ (.int .i64 (8 : Nat)) rfl rfl HY1.out Try.underlying57 rfl (by kernel_rfl)) rfl HFIN.out

    · obtain rfl : FL = false := hFL.symm.trans (decide_eq_false (by omega))
      obtain ⟨i, rfl, hi, hdead⟩ : ∃ i : Nat, a = (i : Int) ∧ i < d.as.length ∧ d.dead = false := by
        obtain ⟨h1, h2, h3⟩ := may_zero HME.out
        exact ⟨a.toNat, by omega, h3, h1⟩
      have hEE1 : EE = (d.append i b).state := by rw [HEE.out]; unfold appendE; rw [HME.out, if_neg (by omega), HU.out, hm, if_neg hfull, Int.toNat_natCast]
      have hDD1 : DD = d.append i b := by rw [HDD.out]; unfold appendD; rw [HME.out, if_neg (by omega), HU.out, hm, if_neg hfull, Int.toNat_natCast]
      rw [← hDD1] at hEE1
      rw [← appF_eq b d i hdead] at hDD1
      have HEE := Lib.hid hEE1
      have hil : i < TR.length := by have h1 : d.as.length = TR.length := HH.out.len; omega
      have HDJ0 := Lib.hid (show DD = appF d i (b.drop 0) from hDD1)
      have HHR := Lib.hid HH.out.areas
      clear hDD1 hEE1
      go_wp2_with fail

      go_loopw [9] (fun iv wr => ∃ (j : Nat) (t' : RT) (d' : DDk), j ≤ m ∧ iv = .int .i64 j ∧ Hid (wr.heap[w.heap.size]? = some (.cells #[.slice t'.A t'.R.length t'.c, .int .i64 (d'.room : Int), .bool d'.pw.isSome, .int .i64 t'.q, .bool d'.dead] 57 (0, 0)) ∧ wr.heap[w.heap.size + 1]? = some (.cells #[.slice none 0 0, .int .i64 0, .bool false, .int .i64 0, .bool false] 57 (0, 0))) ∧ Hid (Below w.heap.size w wr ∧ w.heap.size + 2 ≤ wr.heap.size) ∧ Hid (Stand (w.heap.size + 2) wr ⟨TA, TC, TR, TQ⟩ t' d') ∧ Hid (DD = appF d' i (b.drop j)) ∧ Hid (d'.fits (n + j)) ∧ Hid (d'.as.length = TR.length)) (fun iv _ => m - (intOf iv).toNat)
      case atStart => exact ⟨0, ⟨TA, TC, TR, TQ⟩, d, Nat.zero_le _, rfl, (show _ ∧ _ from ⟨q0, q1⟩), (show _ ∧ _ from ⟨hbw2, by omega⟩), (show Stand _ _ _ _ _ from fun W _ hR => ⟨hR, HH.out.as_, HH.out.q⟩), HDJ0, HD, HH.out.len⟩
      case round =>
        obtain ⟨j, t', d', hj, rfl, HC, HB, HST, HDJ, HF, HL⟩ := hrel
        obtain ⟨A', C', R', Q'⟩ := t'
        dsimp only at HC
        have hwr := HC.out.1
        have hwz := HC.out.2
        have c0 := cell_of_row wr w.heap.size 0 _ _ _ hwr
        have c1 := cell_of_row wr w.heap.size 1 _ _ _ hwr
        have c2 := cell_of_row wr w.heap.size 2 _ _ _ hwr
        have c3 := cell_of_row wr w.heap.size 3 _ _ _ hwr
        have c4 := cell_of_row wr w.heap.size 4 _ _ _ hwr

        by_cases k1 : j < m
        · have k2 : (j : Int) < (m : Int) := by omega
          cases hdd : d'.dead with
          | false =>
            rw [hdd] at c4
            obtain ⟨bj, hbj⟩ : ∃ x, b[j]? = some x := ⟨_, List.getElem?_eq_getElem (by omega)⟩
            obtain ⟨ga, oa, rfl, hcj⟩ := (HSL.out.below HB.out.1).bytes.byte hbj
            have k3 : (j : Int) < (c : Int) := by omega
            have hdrop : b.drop j = bj :: b.drop (j + 1) := by
              obtain ⟨h1, h2⟩ := List.getElem?_eq_some_iff.1 hbj
              rw [List.drop_eq_getElem_cons h1, h2]
            have HDJ5 := Lib.hid (show DD = appF (putD d' i (.byte bj)) i (b.drop (j + 1)) from by rw [HDJ.out, hdrop]; conv => (lhs; unfold appF); rw [if_neg (by rw [hdd]; decide)])
            have hbd : Below w.heap.size w wr.drew := HB.out.1.trans ((jn_drewn wr).mono HB.out.1.size)
            have href : RefAt wr.drew ⟨A', C', R', Q'⟩ d' := HST.out wr.drew (fun _ _ _ => rfl) (HHR.out.below hbd)
            have hrl : d'.as.length = R'.length := href.len
            have hi' : i < R'.length := by have := HL.out; omega
            obtain ⟨x, hx⟩ : ∃ x, R'[i]? = some x := ⟨_, List.getElem?_eq_getElem hi'⟩
            have hput := rput_any wr.drew ⟨A', C', R', Q'⟩ d' i (n + j) (.byte bj) x href HF.out (by omega) hx hdd trivial
            unfold RT.v DSt.v at hput
            dsimp only [DSt.c, DSt.n] at hput
            rw [hdd] at hput
            have HPUT := Lib.hid hput
            have HDD5 := Lib.hid hdd
            have HW0 := Lib.hid hwr
            have HW1 := Lib.hid hwz
            have HPF := Lib.hid (put_fits HF.out i (.byte bj))
            have HPL := Lib.hid ((put_parts d' i (.byte bj)).1.trans HL.out)
            have HBJ := Lib.hid hbj
            clear hput hdd hwr hwz hbj hdrop hbd href hrl hi' hx HDJ
            go_wp2_with fail
            have hHeld := (show _ ∧ _ ∧ _ ∧ _ ∧ _ ∧ _ from ⟨c0, c1, c2, c3, c4, hcj⟩)
            refine wp_region_last (fun w' => w'.cell? ⟨w.heap.size, 0, none⟩ = some (.slice A' R'.length C') ∧ w'.cell? ⟨w.heap.size, 1, none⟩ = some (.int .i64 (d'.room : Int)) ∧ w'.cell? ⟨w.heap.size, 2, none⟩ = some (.bool d'.pw.isSome) ∧ w'.cell? ⟨w.heap.size, 3, none⟩ = some (.int .i64 Q') ∧ w'.cell? ⟨w.heap.size, 4, none⟩ = some (.bool false) ∧ w'.cell? ⟨ga, oa + j, none⟩ = some (.int .u8 (bj.toNat : Int))) 8 (by kernel_rfl) ?_
            refine wpAnyL_take (i := 0) (v := ?vl0) rfl (by kernel_rfl) (by kernel_rfl) (by kernel_rfl) (by kernel_rfl) (by kernel_rfl) (fun _ _ _ h => h) hHeld (Or.inl ⟨by rfl, ?yl0⟩) ?rl0
            case yl0 =>
              intro w hSw
              (try dsimp only at hSw)
              go_simp
              first | done | with_reducible rfl
            try simp only [Act.put, List.getElem_toArray, List.getElem_cons_zero, List.setIfInBounds_toArray, List.set_cons_zero, List.set_cons_succ]
            refine wpAnyL_take (i := 1) (v := ?vl1) rfl (by kernel_rfl) (by kernel_rfl) (by kernel_rfl) (by kernel_rfl) (by kernel_rfl) (fun _ _ _ h => h) hHeld (Or.inl ⟨by rfl, ?yl1⟩) ?rl1
            case yl1 =>
              intro w hSw
              (try dsimp only at hSw)
              go_simp
              first | done | with_reducible rfl
            try simp only [Act.put, List.getElem_toArray, List.getElem_cons_zero, List.getElem_cons_succ, List.setIfInBounds_toArray, List.set_cons_zero, List.set_cons_succ]
            refine wpAnyL_take (i := 2) (v := ?vl2) rfl (by kernel_rfl) (by kernel_rfl) (by kernel_rfl) (by kernel_rfl) (by kernel_rfl) (fun _ _ _ h => h) hHeld (Or.inl ⟨by rfl, ?yl2⟩) ?rl2
            case yl2 =>
              intro w hSw
              (try dsimp only at hSw)
              go_simp
              first | done | with_reducible rfl
            try simp only [Act.put, List.getElem_toArray, List.getElem_cons_zero, List.getElem_cons_succ, List.setIfInBounds_toArray, List.set_cons_zero, List.set_cons_succ]
            refine wpAnyL_take (i := 3) (v := ?vl3) rfl (by kernel_rfl) (by kernel_rfl) (by kernel_rfl) (by kernel_rfl) (by kernel_rfl) (fun _ _ _ h => h) hHeld (Or.inl ⟨by rfl, ?yl3⟩) ?rl3
            case yl3 =>
              intro w hSw
              (try dsimp only at hSw)
              go_simp
              first | done | with_reducible rfl
            try simp only [Act.put, List.getElem_toArray, List.getElem_cons_zero, List.getElem_cons_succ, List.setIfInBounds_toArray, List.set_cons_zero, List.set_cons_succ]
            refine wpAnyL_take (i := 4) (v := ?vl4) rfl (by kernel_rfl) (by kernel_rfl) (by kernel_rfl) (by kernel_rfl) (by kernel_rfl) (fun _ _ _ h => h) hHeld (Or.inl ⟨by rfl, ?yl4⟩) ?rl4
            case yl4 =>
              intro w hSw
              (try dsimp only at hSw)
              go_simp
              first | done | with_reducible rfl
            try simp only [Act.put, List.getElem_toArray, List.getElem_cons_zero, List.getElem_cons_succ, List.setIfInBounds_toArray, List.set_cons_zero, List.set_cons_succ]
            refine wpAnyL_take (i := 5) (v := ?vl5) rfl (by kernel_rfl) (by kernel_rfl) (by kernel_rfl) (by kernel_rfl) (by kernel_rfl) (fun _ _ _ h => h) hHeld (Or.inl ⟨by rfl, ?yl5⟩) ?rl5
            case yl5 =>
              intro w hSw
              (try dsimp only at hSw)
              go_simp
              first | done | with_reducible rfl
            try simp only [Act.put, List.getElem_toArray, List.getElem_cons_zero, List.getElem_cons_succ, List.setIfInBounds_toArray, List.set_cons_zero, List.set_cons_succ]
            refine wpAnyL_take (i := 6) (v := ?vl6) rfl (by kernel_rfl) (by kernel_rfl) (by kernel_rfl) (by kernel_rfl) (by kernel_rfl) (fun _ _ _ h => h) hHeld (Or.inl ⟨by rfl, ?yl6⟩) ?rl6
            case yl6 =>
              intro w hSw
              (try dsimp only at hSw)
              go_simp
              first | done | with_reducible rfl
            try simp only [Act.put, List.getElem_toArray, List.getElem_cons_zero, List.getElem_cons_succ, List.setIfInBounds_toArray, List.set_cons_zero, List.set_cons_succ]
            refine wpAnyL_one (i := 7) (by kernel_rfl) rfl rfl (fun K hK => ?_)
            go_simp
            refine HPUT.out.mono ?_
            rintro e w5 ⟨t5, rfl, hb5', h5⟩
            have hb5 : Below wr.heap.size wr w5 := (jn_drewn wr).trans hb5'
            have HB5 := Lib.hid hb5
            have H5 := Lib.hid h5
            have hz5 := (hb5.block w.heap.size (by have := HB.out.2; omega)).trans HW0.out
            rw [HDD5.out] at hz5
            have e0 := cell_of_row w5 w.heap.size 0 _ _ _ hz5
            have e1 := cell_of_row w5 w.heap.size 1 _ _ _ hz5
            have e2 := cell_of_row w5 w.heap.size 2 _ _ _ hz5
            have e3 := cell_of_row w5 w.heap.size 3 _ _ _ hz5
            have e4 := cell_of_row w5 w.heap.size 4 _ _ _ hz5
            have cb5 := ((HSL.out.below (HB.out.1.trans (hb5.mono HB.out.1.size))).bytes.byte HBJ.out)
            obtain ⟨ga', oa', eqa, cb5⟩ := cb5
            cases eqa
            unfold RT.v
            go_wp2_with fail
            have hHeld := (show _ ∧ _ ∧ _ ∧ _ ∧ _ ∧ _ from ⟨e0, e1, e2, e3, e4, cb5⟩)
            refine hK.out _ _ (fun _ => hHeld) ?_
            clear hK K
            try simp only [Act.put, List.getElem_toArray, List.getElem_cons_zero, List.getElem_cons_succ, List.setIfInBounds_toArray, List.set_cons_zero, List.set_cons_succ]
            refine wpAnyL_one (i := 8) (by kernel_rfl) rfl rfl (fun K hK => ?_)
            refine wp_store_mid 57 (.tmp 3) (.tmp 47) rfl w.heap.size 0 #[.slice t5.A t5.R.length t5.c, .int .i64 ((putD d' i (.byte bj)).room : Int), .bool (putD d' i (.byte bj)).pw.isSome, .int .i64 t5.q, .bool (putD d' i (.byte bj)).dead] rfl rfl (fun j hj => there5 hz5 hj) (by kernel_rfl) (by simp [Value.oneCell']) ?_
            have hst := store5 hz5 (.slice t5.A t5.R.length t5.c) (.int .i64 ((putD d' i (.byte bj)).room : Int)) (.bool (putD d' i (.byte bj)).pw.isSome) (.int .i64 t5.q) (.bool (putD d' i (.byte bj)).dead)
            obtain ⟨w6, hw6⟩ : ∃ w6, w5.setCells w.heap.size 0 [.slice t5.A t5.R.length t5.c, .int .i64 ((putD d' i (.byte bj)).room : Int), .bool (putD d' i (.byte bj)).pw.isSome, .int .i64 t5.q, .bool (putD d' i (.byte bj)).dead] = w6 := ⟨_, rfl⟩
            rw [show (#[Value.slice t5.A t5.R.length t5.c, .int .i64 ((putD d' i (.byte bj)).room : Int), .bool (putD d' i (.byte bj)).pw.isSome, .int .i64 t5.q, .bool (putD d' i (.byte bj)).dead] : Array Value).toList = [.slice t5.A t5.R.length t5.c, .int .i64 ((putD d' i (.byte bj)).room : Int), .bool (putD d' i (.byte bj)).pw.isSome, .int .i64 t5.q, .bool (putD d' i (.byte bj)).dead] from rfl, hw6]
            rw [hw6] at hst
            have HST6 := Lib.hid hst.1
            have HO6 := Lib.hid hst.2
            clear hst hz5 hw6
            refine hK.out _ _ (fun h => absurd rfl h) ?_
            clear hK K
            try simp only [Act.put, List.getElem_toArray, List.getElem_cons_zero, List.getElem_cons_succ]
            refine wpAnyL_done (by kernel_rfl) ?_ _

            go_wp2_with fail
            go_roundw
            case rel =>
              have hbw5 := HB.out.1.trans (HB5.out.mono HB.out.1.size)
              have hs5 := HB5.out.size
              have hsB := HB.out.2
              exact ⟨j + 1, t5, putD d' i (.byte bj), by omega, by go_num, (show _ ∧ _ from ⟨HST6.out, (HO6.out.block _ (by omega)).trans ((HB5.out.block _ (by omega)).trans HW1.out)⟩), (show _ ∧ _ from ⟨only_below hbw5 HO6.out (Nat.le_refl _), by rw [HO6.out.size]; omega⟩), (show Stand _ _ _ _ _ from (HST.out.put hsB HB5.out H5.out).only HO6.out (by omega)), HDJ5, HPF, HPL⟩
            case measure => simp [intOf]; omega
          | true =>
            rw [hdd] at c4
            have hend : d' = DD := by rw [HDJ.out, appF_dead hdd]
            subst hend
            have hbd : Below w.heap.size w wr.drew := HB.out.1.trans ((jn_drewn wr).mono HB.out.1.size)
            have href : RefAt wr.drew ⟨A', C', R', Q'⟩ d' := HST.out wr.drew (fun _ _ _ => rfl) (HHR.out.below hbd)
            have hmay := rmay_any wr.drew ⟨A', C', R', Q'⟩ d' (i : Int) (n + j) href HF.out
            unfold RT.v at hmay
            dsimp only at hmay
            rw [may_state (by have := HL.out; omega), ← HEE.out] at hmay
            rw [hdd] at hmay
            have HMAY2 := Lib.hid hmay
            have HW0 := Lib.hid hwr
            have HW1 := Lib.hid hwz
            have HDEAD := Lib.hid hdd
            clear hmay hwr hwz hbd href
            go_wp2_with fail
            refine wp_region_held_drew (S := (fun w' => w'.cell? ⟨w.heap.size, 0, none⟩ = some (.slice A' R'.length C') ∧ w'.cell? ⟨w.heap.size, 1, none⟩ = some (.int .i64 (d'.room : Int)) ∧ w'.cell? ⟨w.heap.size, 2, none⟩ = some (.bool d'.pw.isSome) ∧ w'.cell? ⟨w.heap.size, 3, none⟩ = some (.int .i64 Q') ∧ w'.cell? ⟨w.heap.size, 4, none⟩ = some (.bool true))) (by kernel_rfl) ⟨c0, c1, c2, c3, c4⟩ (fun hHeld => ?_)
            refine wpAnyH_take (i := 0) (v := ?vt0) rfl (by kernel_rfl) (by kernel_rfl) (by kernel_rfl) (fun _ _ _ h => h) (Or.inl ⟨by rfl, ?yt0⟩) (by assumption) ?rt0
            case yt0 =>
              intro w hSw
              (try dsimp only at hSw)
              go_simp
              first | done | with_reducible rfl
            try simp only [Act.put, List.getElem_toArray, List.getElem_cons_zero, List.setIfInBounds_toArray, List.set_cons_zero, List.set_cons_succ]
            refine wpAnyH_take (i := 1) (v := ?vt1) rfl (by kernel_rfl) (by kernel_rfl) (by kernel_rfl) (fun _ _ _ h => h) (Or.inl ⟨by rfl, ?yt1⟩) (by assumption) ?rt1
            case yt1 =>
              intro w hSw
              (try dsimp only at hSw)
              go_simp
              first | done | with_reducible rfl
            try simp only [Act.put, List.getElem_toArray, List.getElem_cons_zero, List.getElem_cons_succ, List.setIfInBounds_toArray, List.set_cons_zero, List.set_cons_succ]
            refine wpAnyH_take (i := 2) (v := ?vt2) rfl (by kernel_rfl) (by kernel_rfl) (by kernel_rfl) (fun _ _ _ h => h) (Or.inl ⟨by rfl, ?yt2⟩) (by assumption) ?rt2
            case yt2 =>
              intro w hSw
              (try dsimp only at hSw)
              go_simp
              first | done | with_reducible rfl
            try simp only [Act.put, List.getElem_toArray, List.getElem_cons_zero, List.getElem_cons_succ, List.setIfInBounds_toArray, List.set_cons_zero, List.set_cons_succ]
            refine wpAnyH_ready (rs := [3]) (by kernel_rfl) (by simp) ?_
            refine AllReadyH.cons rfl (fun K hK => ?_) AllReadyH.nil
            go_simp
            refine HMAY2.out.mono ?_
            rintro e w6 ⟨rfl, hb6'⟩
            have hb6 : Below wr.heap.size wr w6 := (jn_drewn wr).trans hb6'
            have HB6 := Lib.hid hb6
            have hz6 := (hb6.block w.heap.size (by have := HB.out.2; omega)).trans HW0.out
            have hy6 := (hb6.block (w.heap.size + 1) (by have := HB.out.2; omega)).trans HW1.out
            rw [HDEAD.out] at hz6
            have e0 := cell_of_row w6 w.heap.size 0 _ _ _ hz6
            have e1 := cell_of_row w6 w.heap.size 1 _ _ _ hz6
            have e2 := cell_of_row w6 w.heap.size 2 _ _ _ hz6
            have e3 := cell_of_row w6 w.heap.size 3 _ _ _ hz6
            have e4 := cell_of_row w6 w.heap.size 4 _ _ _ hz6
            have HZ6 := Lib.hid hz6
            have HY6 := Lib.hid hy6
            clear hz6 hy6 hb6 hb6'
            go_wp2_with fail
            refine hK.out _ _ ⟨e0, e1, e2, e3, e4⟩ (fun hHeld => ?_)
            clear hK K
            try simp only [Act.put, List.getElem_toArray, List.getElem_cons_zero, List.getElem_cons_succ, List.setIfInBounds_toArray, List.set_cons_zero, List.set_cons_succ]
            refine wpAnyH_ready (rs := [4]) (by kernel_rfl) (by simp) ?_
            refine AllReadyH.cons rfl (fun K hK => ?_) AllReadyH.nil
            refine wp_store_mid 57 (.tmp 6) (.tmp 48) rfl (w.heap.size + 1) 0 #[.slice A' R'.length C', .int .i64 (d'.room : Int), .bool d'.pw.isSome, .int .i64 Q', .bool true] rfl rfl (fun j hj => there5 HY6.out hj) (by kernel_rfl) (by simp [Value.oneCell']) ?_
            have hst := store5 HY6.out (.slice A' R'.length C') (.int .i64 (d'.room : Int)) (.bool d'.pw.isSome) (.int .i64 Q') (.bool true)
            obtain ⟨w7, hw7⟩ : ∃ w7, w6.setCells (w.heap.size + 1) 0 [.slice A' R'.length C', .int .i64 (d'.room : Int), .bool d'.pw.isSome, .int .i64 Q', .bool true] = w7 := ⟨_, rfl⟩
            rw [show (#[Value.slice A' R'.length C', .int .i64 (d'.room : Int), .bool d'.pw.isSome, .int .i64 Q', .bool true] : Array Value).toList = [.slice A' R'.length C', .int .i64 (d'.room : Int), .bool d'.pw.isSome, .int .i64 Q', .bool true] from rfl, hw7]
            rw [hw7] at hst
            have HST7 := Lib.hid hst.1
            have HO7 := Lib.hid hst.2
            have hz7 := (hst.2.block w.heap.size (by omega)).trans HZ6.out
            have k0 := cell_of_row w7 w.heap.size 0 _ _ _ hz7
            have k1 := cell_of_row w7 w.heap.size 1 _ _ _ hz7
            have k2 := cell_of_row w7 w.heap.size 2 _ _ _ hz7
            have k3 := cell_of_row w7 w.heap.size 3 _ _ _ hz7
            have k4 := cell_of_row w7 w.heap.size 4 _ _ _ hz7
            clear hst hw7
            refine hK.out _ _ ⟨k0, k1, k2, k3, k4⟩ (fun hHeld => ?_)
            clear hK K
            try simp only [Act.put, List.getElem_toArray, List.getElem_cons_zero, List.getElem_cons_succ]
            refine wpAnyH_take (i := 5) (v := ?vt5) rfl (by kernel_rfl) (by kernel_rfl) (by kernel_rfl) (fun _ _ _ h => h) (Or.inl ⟨by rfl, ?yt5⟩) (by assumption) ?rt5
            case yt5 =>
              intro w hSw
              (try dsimp only at hSw)
              go_simp
              first | done | with_reducible rfl
            try simp only [Act.put, List.getElem_toArray, List.getElem_cons_zero, List.getElem_cons_succ, List.setIfInBounds_toArray, List.set_cons_zero, List.set_cons_succ]
            refine wpAnyH_done (by kernel_rfl) ?_ _
            have hbw6 := HB.out.1.trans (HB6.out.mono HB.out.1.size)
            have hs6 := HB6.out.size
            have hsB := HB.out.2
            have HFIN := Lib.hid (show RPE w ⟨TA, TC, TR, TQ⟩ d' EE (.returned (.tuple #[.agg #[.slice A' R'.length C', .int .i64 (d'.room : Int), .bool d'.pw.isSome, .int .i64 Q', .bool true], .int .i64 (EE : Nat)])) w7 from
              ⟨⟨A', C', R', Q'⟩, by unfold RT.v; rw [HDEAD.out], only_below hbw6 HO7.out (by omega), fun W hW hR => ((HST.out.below HB6.out).only HO7.out (by omega)) W (fun b h1 h2 => hW b (by omega) h2) hR⟩)
            go_wp2_with fail
            exact bodyPost_ret (results_ct rfl _ _ _ _ _ (0, 0) _ (.int .i64 (EE : Nat)) rfl rfl HST7.out Try.underlying57 rfl (by kernel_rfl)) rfl HFIN.out

        · obtain rfl : j = m := by omega
          have hend : d' = DD := by rw [HDJ.out, List.drop_of_length_le (by omega)]; rfl
          subst hend
          have hbd : Below w.heap.size w wr.drew := HB.out.1.trans ((jn_drewn wr).mono HB.out.1.size)
          have href : RefAt wr.drew ⟨A', C', R', Q'⟩ d' := HST.out wr.drew (fun _ _ _ => rfl) (HHR.out.below hbd)
          have hmay := rmay_any wr.drew ⟨A', C', R', Q'⟩ d' (i : Int) (n + j) href HF.out
          unfold RT.v at hmay
          dsimp only at hmay
          rw [may_state (by have := HL.out; omega), ← HEE.out] at hmay
          skip
          have HMAY2 := Lib.hid hmay
          have HW0 := Lib.hid hwr
          have HW1 := Lib.hid hwz
          skip
          clear hmay hwr hwz hbd href
          go_wp2_with fail
          refine wp_region_held_drew (S := (fun w' => w'.cell? ⟨w.heap.size, 0, none⟩ = some (.slice A' R'.length C') ∧ w'.cell? ⟨w.heap.size, 1, none⟩ = some (.int .i64 (d'.room : Int)) ∧ w'.cell? ⟨w.heap.size, 2, none⟩ = some (.bool d'.pw.isSome) ∧ w'.cell? ⟨w.heap.size, 3, none⟩ = some (.int .i64 Q') ∧ w'.cell? ⟨w.heap.size, 4, none⟩ = some (.bool d'.dead))) (by kernel_rfl) ⟨c0, c1, c2, c3, c4⟩ (fun hHeld => ?_)
          refine wpAnyH_take (i := 0) (v := ?vu0) rfl (by kernel_rfl) (by kernel_rfl) (by kernel_rfl) (fun _ _ _ h => h) (Or.inl ⟨by rfl, ?yu0⟩) (by assumption) ?ru0
          case yu0 =>
            intro w hSw
            (try dsimp only at hSw)
            go_simp
            first | done | with_reducible rfl
          try simp only [Act.put, List.getElem_toArray, List.getElem_cons_zero, List.setIfInBounds_toArray, List.set_cons_zero, List.set_cons_succ]
          refine wpAnyH_take (i := 1) (v := ?vu1) rfl (by kernel_rfl) (by kernel_rfl) (by kernel_rfl) (fun _ _ _ h => h) (Or.inl ⟨by rfl, ?yu1⟩) (by assumption) ?ru1
          case yu1 =>
            intro w hSw
            (try dsimp only at hSw)
            go_simp
            first | done | with_reducible rfl
          try simp only [Act.put, List.getElem_toArray, List.getElem_cons_zero, List.getElem_cons_succ, List.setIfInBounds_toArray, List.set_cons_zero, List.set_cons_succ]
          refine wpAnyH_take (i := 2) (v := ?vu2) rfl (by kernel_rfl) (by kernel_rfl) (by kernel_rfl) (fun _ _ _ h => h) (Or.inl ⟨by rfl, ?yu2⟩) (by assumption) ?ru2
          case yu2 =>
            intro w hSw
            (try dsimp only at hSw)
            go_simp
            first | done | with_reducible rfl
          try simp only [Act.put, List.getElem_toArray, List.getElem_cons_zero, List.getElem_cons_succ, List.setIfInBounds_toArray, List.set_cons_zero, List.set_cons_succ]
          refine wpAnyH_ready (rs := [3]) (by kernel_rfl) (by simp) ?_
          refine AllReadyH.cons rfl (fun K hK => ?_) AllReadyH.nil
          go_simp
          refine HMAY2.out.mono ?_
          rintro e w6 ⟨rfl, hb6'⟩
          have hb6 : Below wr.heap.size wr w6 := (jn_drewn wr).trans hb6'
          have HB6 := Lib.hid hb6
          have hz6 := (hb6.block w.heap.size (by have := HB.out.2; omega)).trans HW0.out
          have hy6 := (hb6.block (w.heap.size + 1) (by have := HB.out.2; omega)).trans HW1.out
          have e0 := cell_of_row w6 w.heap.size 0 _ _ _ hz6
          have e1 := cell_of_row w6 w.heap.size 1 _ _ _ hz6
          have e2 := cell_of_row w6 w.heap.size 2 _ _ _ hz6
          have e3 := cell_of_row w6 w.heap.size 3 _ _ _ hz6
          have e4 := cell_of_row w6 w.heap.size 4 _ _ _ hz6
          have HZ6 := Lib.hid hz6
          have HY6 := Lib.hid hy6
          clear hz6 hy6 hb6 hb6'
          go_wp2_with fail
          refine hK.out _ _ ⟨e0, e1, e2, e3, e4⟩ (fun hHeld => ?_)
          clear hK K
          try simp only [Act.put, List.getElem_toArray, List.getElem_cons_zero, List.getElem_cons_succ, List.setIfInBounds_toArray, List.set_cons_zero, List.set_cons_succ]
          refine wpAnyH_ready (rs := [4]) (by kernel_rfl) (by simp) ?_
          refine AllReadyH.cons rfl (fun K hK => ?_) AllReadyH.nil
          refine wp_store_mid 57 (.tmp 6) (.tmp 48) rfl (w.heap.size + 1) 0 #[.slice A' R'.length C', .int .i64 (d'.room : Int), .bool d'.pw.isSome, .int .i64 Q', .bool d'.dead] rfl rfl (fun j hj => there5 HY6.out hj) (by kernel_rfl) (by simp [Value.oneCell']) ?_
          have hst := store5 HY6.out (.slice A' R'.length C') (.int .i64 (d'.room : Int)) (.bool d'.pw.isSome) (.int .i64 Q') (.bool d'.dead)
          obtain ⟨w7, hw7⟩ : ∃ w7, w6.setCells (w.heap.size + 1) 0 [.slice A' R'.length C', .int .i64 (d'.room : Int), .bool d'.pw.isSome, .int .i64 Q', .bool d'.dead] = w7 := ⟨_, rfl⟩
          rw [show (#[Value.slice A' R'.length C', .int .i64 (d'.room : Int), .bool d'.pw.isSome, .int .i64 Q', .bool d'.dead] : Array Value).toList = [.slice A' R'.length C', .int .i64 (d'.room : Int), .bool d'.pw.isSome, .int .i64 Q', .bool d'.dead] from rfl, hw7]
          rw [hw7] at hst
          have HST7 := Lib.hid hst.1
          have HO7 := Lib.hid hst.2
          have hz7 := (hst.2.block w.heap.size (by omega)).trans HZ6.out
          have k0 := cell_of_row w7 w.heap.size 0 _ _ _ hz7
          have k1 := cell_of_row w7 w.heap.size 1 _ _ _ hz7
          have k2 := cell_of_row w7 w.heap.size 2 _ _ _ hz7
          have k3 := cell_of_row w7 w.heap.size 3 _ _ _ hz7
          have k4 := cell_of_row w7 w.heap.size 4 _ _ _ hz7
          clear hst hw7
          refine hK.out _ _ ⟨k0, k1, k2, k3, k4⟩ (fun hHeld => ?_)
          clear hK K
          try simp only [Act.put, List.getElem_toArray, List.getElem_cons_zero, List.getElem_cons_succ]
          refine wpAnyH_take (i := 5) (v := ?vu5) rfl (by kernel_rfl) (by kernel_rfl) (by kernel_rfl) (fun _ _ _ h => h) (Or.inl ⟨by rfl, ?yu5⟩) (by assumption) ?ru5
          case yu5 =>
            intro w hSw
            (try dsimp only at hSw)
            go_simp
            first | done | with_reducible rfl
          try simp only [Act.put, List.getElem_toArray, List.getElem_cons_zero, List.getElem_cons_succ, List.setIfInBounds_toArray, List.set_cons_zero, List.set_cons_succ]
          refine wpAnyH_done (by kernel_rfl) ?_ _
          have hbw6 := HB.out.1.trans (HB6.out.mono HB.out.1.size)
          have hs6 := HB6.out.size
          have hsB := HB.out.2
          have HFIN := Lib.hid (show RPE w ⟨TA, TC, TR, TQ⟩ d' EE (.returned (.tuple #[.agg #[.slice A' R'.length C', .int .i64 (d'.room : Int), .bool d'.pw.isSome, .int .i64 Q', .bool d'.dead], .int .i64 (EE : Nat)])) w7 from
            ⟨⟨A', C', R', Q'⟩, by unfold RT.v; rfl, only_below hbw6 HO7.out (by omega), fun W hW hR => ((HST.out.below HB6.out).only HO7.out (by omega)) W (fun b h1 h2 => hW b (by omega) h2) hR⟩)
          go_wp2_with fail
          exact bodyPost_ret (results_ct rfl _ _ _ _ _ (0, 0) _ (.int .i64 (EE : Nat)) rfl rfl HST7.out Try.underlying57 rfl (by kernel_rfl)) rfl HFIN.out

  · have e1 : ((E : Int) == 0) = false := by simp; omega
    go_wp2_with fail
    refine wp_region_held_drew (S := (fun w' => AnyA w' ∧ AnyA w')) (by kernel_rfl) ⟨trivial, trivial⟩ (fun hHeld => ?_)
    refine wpAnyH_take (i := 0) (v := ?vq0) rfl (by kernel_rfl) (by kernel_rfl) (by kernel_rfl) (fun _ _ _ h => h) (Or.inl ⟨by rfl, ?yq0⟩) (by assumption) ?rq0
    case yq0 =>
      intro w hSw
      (try dsimp only at hSw)
      go_simp
      first | done | with_reducible rfl
    try simp only [Act.put, List.getElem_toArray, List.getElem_cons_zero, List.setIfInBounds_toArray, List.set_cons_zero, List.set_cons_succ]
    refine wpAnyH_take (i := 1) (v := ?vq1) rfl (by kernel_rfl) (by kernel_rfl) (by kernel_rfl) (fun _ _ _ h => h) (Or.inl ⟨by rfl, ?yq1⟩) (by assumption) ?rq1
    case yq1 =>
      intro w hSw
      (try dsimp only at hSw)
      go_simp
      first | done | with_reducible rfl
    try simp only [Act.put, List.getElem_toArray, List.getElem_cons_zero, List.getElem_cons_succ, List.setIfInBounds_toArray, List.set_cons_zero, List.set_cons_succ]
    refine wpAnyH_take (i := 2) (v := ?vq2) rfl (by kernel_rfl) (by kernel_rfl) (by kernel_rfl) (fun _ _ _ h => h) (Or.inl ⟨by rfl, ?yq2⟩) (by assumption) ?rq2
    case yq2 =>
      intro w hSw
      (try dsimp only at hSw)
      go_simp
      first | done | with_reducible rfl
    try simp only [Act.put, List.getElem_toArray, List.getElem_cons_zero, List.getElem_cons_succ, List.setIfInBounds_toArray, List.set_cons_zero, List.set_cons_succ]
    refine wpAnyH_take (i := 3) (v := undef) rfl (by kernel_rfl) (by kernel_rfl) (by kernel_rfl) (fun _ _ _ h => h) (Or.inr ⟨by rfl, rfl⟩) (by assumption) ?rq3
    try simp only [Act.put, List.getElem_toArray, List.getElem_cons_zero, List.getElem_cons_succ, List.setIfInBounds_toArray, List.set_cons_zero, List.set_cons_succ]
    refine wpAnyH_take (i := 4) (v := undef) rfl (by kernel_rfl) (by kernel_rfl) (by kernel_rfl) (fun _ _ _ h => h) (Or.inr ⟨by rfl, rfl⟩) (by assumption) ?rq4
    try simp only [Act.put, List.getElem_toArray, List.getElem_cons_zero, List.getElem_cons_succ, List.setIfInBounds_toArray, List.set_cons_zero, List.set_cons_succ]
    refine wpAnyH_take (i := 5) (v := undef) rfl (by kernel_rfl) (by kernel_rfl) (by kernel_rfl) (fun _ _ _ h => h) (Or.inr ⟨by rfl, rfl⟩) (by assumption) ?rq5
    try simp only [Act.put, List.getElem_toArray, List.getElem_cons_zero, List.getElem_cons_succ, List.setIfInBounds_toArray, List.set_cons_zero, List.set_cons_succ]
    refine wpAnyH_take (i := 6) (v := undef) rfl (by kernel_rfl) (by kernel_rfl) (by kernel_rfl) (fun _ _ _ h => h) (Or.inr ⟨by rfl, rfl⟩) (by assumption) ?rq6
    try simp only [Act.put, List.getElem_toArray, List.getElem_cons_zero, List.getElem_cons_succ, List.setIfInBounds_toArray, List.set_cons_zero, List.set_cons_succ]
    refine wpAnyH_take (i := 7) (v := undef) rfl (by kernel_rfl) (by kernel_rfl) (by kernel_rfl) (fun _ _ _ h => h) (Or.inr ⟨by rfl, rfl⟩) (by assumption) ?rq7
    try simp only [Act.put, List.getElem_toArray, List.getElem_cons_zero, List.getElem_cons_succ, List.setIfInBounds_toArray, List.set_cons_zero, List.set_cons_succ]
    refine wpAnyH_take (i := 8) (v := undef) rfl (by kernel_rfl) (by kernel_rfl) (by kernel_rfl) (fun _ _ _ h => h) (Or.inr ⟨by rfl, rfl⟩) (by assumption) ?rq8
    try simp only [Act.put, List.getElem_toArray, List.getElem_cons_zero, List.getElem_cons_succ, List.setIfInBounds_toArray, List.set_cons_zero, List.set_cons_succ]
    refine wpAnyH_take (i := 9) (v := undef) rfl (by kernel_rfl) (by kernel_rfl) (by kernel_rfl) (fun _ _ _ h => h) (Or.inr ⟨by rfl, rfl⟩) (by assumption) ?rq9
    try simp only [Act.put, List.getElem_toArray, List.getElem_cons_zero, List.getElem_cons_succ, List.setIfInBounds_toArray, List.set_cons_zero, List.set_cons_succ]
    refine wpAnyH_take (i := 10) (v := undef) rfl (by kernel_rfl) (by kernel_rfl) (by kernel_rfl) (fun _ _ _ h => h) (Or.inr ⟨by rfl, rfl⟩) (by assumption) ?rq10
    try simp only [Act.put, List.getElem_toArray, List.getElem_cons_zero, List.getElem_cons_succ, List.setIfInBounds_toArray, List.set_cons_zero, List.set_cons_succ]
    refine wpAnyH_take (i := 11) (v := ?vq11) rfl (by kernel_rfl) (by kernel_rfl) (by kernel_rfl) (fun _ _ _ h => h) (Or.inl ⟨by rfl, ?yq11⟩) (by assumption) ?rq11
    case yq11 =>
      intro w hSw
      (try dsimp only at hSw)
      go_simp
      first | done | with_reducible rfl
    try simp only [Act.put, List.getElem_toArray, List.getElem_cons_zero, List.getElem_cons_succ, List.setIfInBounds_toArray, List.set_cons_zero, List.set_cons_succ]
    refine wpAnyH_done (by kernel_rfl) ?_ _
    have e2 : ((E : Int) = 0) = False := eq_false (by omega)
    have HEE := Lib.hid (show EE = E from by rw [HEE.out]; unfold appendE; rw [HME.out, if_pos hE0])
    have HDD := Lib.hid (show DD = d from by rw [HDD.out]; unfold appendD; rw [HME.out, if_pos hE0])
    have c0 := cell_of_row w1 w.heap.size 0 _ _ _ p0
    have c1 := cell_of_row w1 w.heap.size 1 _ _ _ p0
    have c2 := cell_of_row w1 w.heap.size 2 _ _ _ p0
    have c3 := cell_of_row w1 w.heap.size 3 _ _ _ p0
    have c4 := cell_of_row w1 w.heap.size 4 _ _ _ p0
    obtain ⟨Y, hY, hY1, hY2, r0, r1, r2, r3, r4, f0, f1, f2, f3, f4⟩ := ret5 p1 (.slice TA TR.length TC) (.int .i64 (d.room : Int)) (.bool d.pw.isSome) (.int .i64 TQ) (.bool d.dead)
    have HY := Lib.hid hY
    have HY1 := Lib.hid hY1
    have hbY : Below w.heap.size w Y := ⟨hY2.os.trans hbw1.os, hY2.tape.trans hbw1.tape, hY2.output.trans hbw1.output, by rw [hY2.size]; exact hbw1.size, fun q hq => (hY2.block q (by omega)).trans (hbw1.block q hq)⟩
    have HFIN := Lib.hid (show RPE w ⟨TA, TC, TR, TQ⟩ DD EE (.returned (.tuple #[.agg #[.slice TA TR.length TC, .int .i64 (d.room : Int), .bool d.pw.isSome, .int .i64 TQ, .bool d.dead], .int .i64 (E : Nat)])) Y.drew from by
      rw [HDD.out, HEE.out]
      exact ⟨⟨TA, TC, TR, TQ⟩, rfl, hbY.trans ((jn_drewn Y).mono hbY.size), fun W _ hW => ⟨hW, HH.out.as_, HH.out.q⟩⟩)
    clear hY hY1 hY2 hbY
    go_wp2_with fail
    rw [HY.out]
    exact bodyPost_ret (results_ct rfl _ _ _ _ _ (0, 0) _ (.int .i64 (E : Nat)) rfl rfl HY1.out Try.underlying57 rfl (by kernel_rfl)) rfl HFIN.out
end Go.Proofs.Ytojkifcclgecoaa.Dk
