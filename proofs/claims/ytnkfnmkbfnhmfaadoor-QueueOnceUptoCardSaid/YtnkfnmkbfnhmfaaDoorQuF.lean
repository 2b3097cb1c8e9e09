/-
  Rows of ints in memory; the document's own SameInts of two rows of ints. · An argument that is a row of bools, opened. No program is named here. · The law QueueFirst, walked.
-/
import Derived.Test.YtnkfnmkbfnhmfaaDoorQuZ
import Derived.Test.YtnkfnmkbfnhmfaaDoorTOpen
import Derived.Deep.Grids
namespace Go.Proofs.YtnkfnmkbfnhmfaaDoor
open Go Go.RowKit Go.Shelf Go.Proofs Go.ChangeMaps Go.Maps Go.WideMaps
attribute [local go_sem] Oper.semAt_some

def IntsI (w : World) (A : Option Addr) (l : List Int) : Prop := 0 < l.length → ∃ g o, A = some ⟨g, o, none⟩ ∧ ∀ i x, l[i]? = some x → w.cell? ⟨g, o + i, none⟩ = some (.int .i64 x)
theorem IntsI.below {w w' : World} {A : Option Addr} {l : List Int} (h : IntsI w A l) (hb : Below w.heap.size w w') : IntsI w' A l := fun hn => by
  obtain ⟨g, o, e, hc⟩ := h hn
  refine ⟨g, o, e, fun i x hi => ?_⟩
  have h1 := hc i x hi
  have hl : g < w.heap.size := World.block_lt_of_cell? w (a := ⟨g, o + i, none⟩) h1
  exact (World.cell?_of_block (a := ⟨g, o + i, none⟩) (hb.block g hl)).trans h1
def intsV (l : List Int) : List Value := l.map fun x => .int .i64 x
theorem idsV_ints (R : List QX) : idsV R = intsV (R.map QX.id) := by unfold idsV intsV; rw [List.map_map]; rfl
/-- A row of ints of one's own, as a slice. -/
theorem ints_slice {base : Nat} {w : World} {v : Value} {l : List Int} (h : w.ownsRow base 3 1 v l.length (intsV l)) : ∃ A c, v = .slice A l.length c ∧ l.length ≤ c ∧ c ≤ maxLen ∧ IntsI w A l := by
  rcases h.2 with ⟨rfl, h0⟩ | ⟨g, cap, cur, rfl, hbg, hgb, hc, hcm, hcl, hx⟩
  · exact ⟨none, 0, by rw [h0], by omega, Nat.zero_le _, fun h1 => by omega⟩
  · refine ⟨_, _, rfl, hc, hcm, fun _ => ⟨g, 0, rfl, fun i x hi => ?_⟩⟩
    have b1 := World.ownsRow.cells h (g := g) rfl i (.int .i64 x) (by unfold intsV; rw [List.getElem?_map, hi]; rfl)
    rw [Go.WideShapes.add_plain, Nat.zero_add] at b1
    rw [Nat.zero_add]
    exact b1
theorem ret_bQ {a b : Bool} (h : a = b) : Ending.returned (.bool a) = .returned (.bool b) := by rw [h]
theorem take_eqQ {α : Type} {l m : List α} {n : Nat} (h : ∀ j, j < n → l[j]? = m[j]?) (hl : l.length = n) (hm : m.length = n) : l = m := by
  apply List.ext_getElem?
  intro i
  by_cases hi : i < n
  · exact h i hi
  · rw [List.getElem?_eq_none (by omega), List.getElem?_eq_none (by omega)]
set_option maxRecDepth 100000 in
set_option maxHeartbeats 4000000 in
theorem sameintsI_any (l m : List Int) (A B : Option Addr) (c d : Nat) (w : World) (ha : IntsI w A l) (hb : IntsI w B m) (hm : m.length ≤ 9000000000000) (_hl : l.length ≤ 9000000000000) :
    Calls Tryd.prog 15 #[.slice A l.length c, .slice B m.length d] w fun e w' => e = .returned (.bool (decide (l = m))) ∧ Below w.heap.size w w' := by
  have HA := Lib.hid ha; clear ha
  have HB := Lib.hid hb; clear hb
  by_cases hlm : l.length = m.length
  · obtain ⟨n, hn⟩ : ∃ n, m.length = n := ⟨_, rfl⟩
    have hln : l.length = n := by omega
    rw [hln, hn]
    rw [hn] at hm
    have HN := Lib.hid hn
    have HLN := Lib.hid hln
    have g1 : ((n : Int) != (n : Int)) = false := by simp
    clear hlm hn hln
    go_enter Tryd.func15, Tryd.ntmps15
    go_wp2_with fail
    clear g1
    go_loopw [5] (fun i wr => ∃ (k : Nat), k ≤ n ∧ i = .int .i64 k ∧ Hid (∀ j, j < k → l[j]? = m[j]?) ∧ Below w.heap.size w wr) (fun i _ => n - (intOf i).toNat)
    case atStart => exact ⟨0, Nat.zero_le _, rfl, fun j hj => absurd hj (Nat.not_lt_zero _), Below.refl _ _⟩
    case round =>
      obtain ⟨k, hk, rfl, hsame, hbr⟩ := hrel
      by_cases h1 : k < n
      · have hlk : k < l.length := by have := HLN.out; omega
        have hmk : k < m.length := by have := HN.out; omega
        obtain ⟨x, hx⟩ : ∃ x, l[k]? = some x := ⟨_, List.getElem?_eq_getElem hlk⟩
        obtain ⟨y, hy⟩ : ∃ y, m[k]? = some y := ⟨_, List.getElem?_eq_getElem hmk⟩
        obtain ⟨g, o, hA, hr⟩ := (HA.out.below hbr) (by omega)
        subst hA
        obtain ⟨g', o', hB, hr'⟩ := (HB.out.below hbr) (by omega)
        subst hB
        have c1 := hr k x hx
        have c2 := hr' k y hy
        have k1 : (k : Int) < (n : Int) := by omega
        have wk : IntKind.i64.wrap (k : Int) = (k : Int) := IntWalk.i64_in _ (by omega)
        have HX := Lib.hid hx
        have HY := Lib.hid hy
        have HS := Lib.hid hsame
        clear hr hr' hx hy hlk hmk hsame
        by_cases hxy : x = y
        · subst hxy
          have g2 : ((x : Int) != (x : Int)) = false := by simp
          go_wp2_with fail
          go_region
          go_wp2_with fail
          go_roundw
          case rel =>
            refine ⟨k + 1, by omega, by go_num, fun j hj => ?_, hbr.drew⟩
            by_cases e : j = k
            · subst e; exact HX.out.trans HY.out.symm
            · exact HS.out j (by omega)
          case measure => simp [intOf]; omega
        · have hne : l ≠ m := fun e => by
            have h1 := HX.out
            rw [e, HY.out] at h1
            simp only [Option.some.injEq] at h1
            exact hxy h1.symm
          have HE := Lib.hid hne
          have g2 : ((x : Int) != (y : Int)) = true := by simp; omega
          have g3 : ((x : Int) = (y : Int)) = False := eq_false (by omega)
          clear hne hxy
          go_wp2_with fail
          go_region
          go_wp2_with fail
          go_ret
          exact ⟨ret_bQ (decide_eq_false HE.out).symm, hbr.drew⟩
      · obtain rfl : k = n := by omega
        have he : l = m := take_eqQ hsame.out HLN.out HN.out
        have HE := Lib.hid he
        clear he hsame
        go_wp2_with fail
        go_ret
        exact ⟨ret_bQ (decide_eq_true HE.out).symm, hbr⟩
  · have g1 : ((l.length : Int) != (m.length : Int)) = true := by simp; omega
    have g2 : ((l.length : Int) = (m.length : Int)) = False := by rw [eq_iff_iff]; constructor <;> (intro h; first | omega | exact h.elim)
    have hne : l ≠ m := fun e => hlm (by rw [e])
    have HE := Lib.hid hne
    clear hne hlm
    go_enter Tryd.func15, Tryd.ntmps15
    go_wp2_with fail
    go_ret
    exact ⟨ret_bQ (decide_eq_false HE.out).symm, Below.refl _ _⟩
end Go.Proofs.YtnkfnmkbfnhmfaaDoor
namespace Go.Proofs.YtnkfnmkbfnhmfaaDoor
open Go Go.RowKit Go.Shelf Go.Proofs Go.ChangeShapes Go.WideShapes Go.Deep

def BoolsAt (w : World) (A : Option Addr) (l : List Bool) : Prop := 0 < l.length → ∃ a, A = some a ∧ ∀ i x, l[i]? = some x → w.cell? (a.add i) = some (.bool x)
theorem BoolsAt.below {w w' : World} {A : Option Addr} {l : List Bool} (h : BoolsAt w A l) (hb : Below w.heap.size w w') : BoolsAt w' A l := fun hn => by
  obtain ⟨a, e, hc⟩ := h hn
  refine ⟨a, e, fun i x hi => ?_⟩
  have h1 := hc i x hi
  exact (hb.cell (p := a.add i) (World.block_lt_of_cell? w (a := a.add i) h1)).trans h1
section
variable {H : Type} {enc : TypeId × Value → H} {P : Program} {w : World} {base : Nat} {held : Bool}
theorem open_boolsV {t e : TypeId} (ht : P.underlying t = some (.slice e)) (he : P.underlying e = some .bool) (hc : P.cellsOf e = 1) {r : Reach} {b0 : Nat} {v : Value} {d : DataW H} {p : List MemPlace} (hv : Value.okWide P w r b0 t v)
    (h : DataW.Trod enc P w base (fun _ => true) held t v d p) : ∃ A c l, v = .slice A l.length c ∧ BoolsAt w A l ∧ l.length ≤ c ∧ c ≤ maxLen := by
  obtain ⟨a, len, cap, rfl⟩ := okWide_slice ht hv
  obtain ⟨fuel, hf⟩ := h
  rcases open_bools ht he hc hf with ⟨hcs, _⟩ | ⟨a, len, cap, B, hcs, _, hl, hm, _, hx⟩
  · simp only [Value.cells, List.cons.injEq, and_true] at hcs
    exact ⟨none, 0, [], hcs, fun h => absurd h (by simp), Nat.le_refl _, Nat.zero_le _⟩
  · simp only [Value.cells, List.cons.injEq, and_true] at hcs
    have hlen : ((List.range len).map B).length = len := by simp
    refine ⟨some a, cap, (List.range len).map B, by rw [hlen]; exact hcs, fun _ => ⟨a, rfl, fun i x hi => ?_⟩, by rw [hlen]; exact hl, hm⟩
    have hil : i < len := by
      have := (List.getElem?_eq_some_iff.1 hi).1
      rwa [hlen] at this
    rw [List.getElem?_map] at hi
    rw [List.getElem?_range hil] at hi
    obtain rfl : B i = x := by simpa using hi
    exact hx i (by omega)
end
end Go.Proofs.YtnkfnmkbfnhmfaaDoor
namespace Go.Proofs.YtnkfnmkbfnhmfaaDoor
open Go Go.RowKit Go.Shelf Go.Proofs Go.ChangeMaps Go.Maps Go.WideMaps
attribute [local go_sem] Oper.semAt_some

def aX (d : Nat) (i : Int) : QX := ⟨i, 0, some ⟨d, 0, none⟩, 1, [qA]⟩
theorem aX_v (d : Nat) (i : Int) : (aX d i).v = .agg #[.int .i64 i, .int .i64 0, .slice (some ⟨d, 0, none⟩) 1 1] := rfl
theorem look_self (a : AX) (L : List AX) : lookA (a :: L) a.id = a ∧ hasA (a :: L) a.id = true := by
  unfold lookA hasA ansOf
  rw [List.find?_cons_of_pos (by simp)]
  exact ⟨rfl, rfl⟩
theorem look_no {L : List AX} (h : ∀ y ∈ L, 1 ≤ y.id) : lookA L 0 = noA ∧ hasA L 0 = false := by
  have : ansOf L 0 = none := by
    unfold ansOf
    rw [List.find?_eq_none]
    intro y hy
    have := h y hy
    simp only [beq_iff_eq]
    omega
  unfold lookA hasA
  rw [this]
  exact ⟨rfl, rfl⟩
/-- The history: of nothing, or of one revision that made the file. -/
def FS (n : Nat) (nm : List FX) (M : Bs → Nat) : Prop := (n = 0 ∧ nm = bareX [] ∧ M = fun _ => 0) ∨ (n = 1 ∧ M [97] = 1)
theorem FS.step {w0 : World} {hb n : Nat} {nm : List FX} {M : Bs → Nat} {mb : Nat} {H : List (Nat × List DX)} {x : QX} {pass : Bool} {a : AX} {w' : World} (h : StepQ w0 hb n nm M mb H x pass a w') (hs : FS n nm M) (hx : x.base = 0 ∧ x.l.map DX.dl = [qA].map DX.dl) :
    ∃ n nm M nv cv k D H, HistAt w0.heap.size w' hb n nm M nv cv mb k D H ∧ FS n nm M := by
  have hp : pathsX x.l = [[97]] := by
    have : pathsX x.l = (x.l.map DX.dl).map Dl.p := by unfold pathsX; rw [List.map_map]; rfl
    rw [this, hx.2]; rfl
  rcases hs with ⟨rfl, rfl, rfl⟩ | ⟨rfl, hM⟩
  · rcases h with ⟨_, nv, cv, k, D, hh⟩ | ⟨_, _, _, nm', nv, cv, k, D, G, _, hh⟩
    · exact ⟨_, _, _, nv, cv, k, D, _, hh, .inl ⟨rfl, rfl, rfl⟩⟩
    · exact ⟨_, _, _, nv, cv, k, D, _, hh, .inr ⟨rfl, by rw [hp]; rfl⟩⟩
  · rcases h with ⟨_, nv, cv, k, D, hh⟩ | ⟨hl, _⟩
    · exact ⟨_, _, _, nv, cv, k, D, _, hh, .inr ⟨rfl, hM⟩⟩
    · rw [late_one hx.2, hx.1, hM] at hl
      cases hl
theorem ints_at {base : Nat} {w : World} {A : Option Addr} {c n : Nat} {l : List Int} (h : w.ownsRow base 3 1 (.slice A n c) n (intsV l)) (hl : l.length = n) : IntsI w A l := by
  subst hl
  obtain ⟨A', c', e, _, _, hI⟩ := ints_slice h
  cases e
  exact hI
theorem FS.le {n : Nat} {nm : List FX} {M : Bs → Nat} (h : FS n nm M) : n ≤ 1 := by rcases h with ⟨h, _⟩ | ⟨h, _⟩ <;> omega
/-- A row of ints of one's own stays where a queue's call turned. -/
theorem own_frame {base base' : Nat} {w w' : World} {qb hb ab room n : Nat} {v u : Value} {R : List QX} {L : List AX} {xs : List Value} (h : w.ownsRow base' 3 1 u n xs) (hq : QueueAt base w qb hb ab room v R L) (hf : QFrame qb v w w') : w'.ownsRow base' 3 1 u n xs := by
  refine ⟨h.1, h.2.imp (fun h => h) fun ⟨g, cap, cur, hv, hb', hg, r⟩ => ⟨g, cap, cur, hv, hb', (hf.cells g cur _ (by decide) (fun e => ?_) (fun e => ?_) hg).trans hg, r⟩⟩
  · rw [e, hq.heap] at hg; cases hg
  · obtain ⟨_, cur2, hy⟩ := hq.waits.far e
    rw [hy] at hg; cases hg
theorem own_turn {base base' : Nat} {w w' : World} {qb hb ab room n : Nat} {v u : Value} {R : List QX} {L : List AX} {xs : List Value} (h : w.ownsRow base' 3 1 u n xs) (hq : QueueAt base w qb hb ab room v R L) (ht : QTurn (fun j => j = qb ∨ v.ownBlock = some j) w w') : w'.ownsRow base' 3 1 u n xs := by
  refine ⟨h.1, h.2.imp (fun h => h) fun ⟨g, cap, cur, hv, hb', hg, r⟩ => ⟨g, cap, cur, hv, hb', (ht.block g (Array.getElem?_eq_some_iff.1 hg).1 (fun e => ?_)).trans hg, r⟩⟩
  rcases e with e | e
  · rw [e, hq.heap] at hg; cases hg
  · obtain ⟨_, cur2, hy⟩ := hq.waits.far e
    rw [hy] at hg; cases hg
/-- A queue, and its history, stay where a row of ints grows. -/
theorem grown_ints {base base' : Nat} {w w' : World} {qb hb ab room n m : Nat} {v u : Value} {R : List QX} {L : List AX} {xs : List Value} {nm : List FX} {M : Bs → Nat} {nv cv : Value} {mb k : Nat} {D : DataW Unit} {H : List (Nat × List DX)} (h : w.ownsRow base' 3 1 u m xs) (hq : QueueAt base w qb hb ab room v R L) (hh : HistAt base w hb n nm M nv cv mb k D H) (hg : w.grownBy w' u.ownBlock) : QueueAt base w' qb hb ab room v R L ∧ HistAt base w' hb n nm M nv cv mb k D H := by
  have key : ∀ (j : Nat) (o : Obj), w.heap[j]? = some o → (∀ cur, o ≠ .cells cur 3 (0, 0)) → w'.heap[j]? = w.heap[j]? := fun j o ho h1 => hg.block j (Array.getElem?_eq_some_iff.1 ho).1 (fun e => by
    obtain ⟨_, cur, hc⟩ := rowT_ge h e.symm
    rw [hc] at ho; cases ho
    exact h1 _ rfl)
  have km : ∀ (j : Nat) (es : Array MapEntry) (ck : Nat), w.heap[j]? = some (.map es ck) → w'.heap[j]? = w.heap[j]? := fun j es ck hj => key j _ hj (fun _ e => by cases e)
  refine ⟨hq.keep (fun g cur t ht hc => key g _ hc (fun cur' e => by cases e; rcases ht with h | h | h | h <;> exact absurd h (by decide))) (fun o ho => ?_), hh.keepT (fun g cur t ht hc => key g _ hc (fun cur' e => by cases e; rcases ht with h | h | h | h | h <;> exact absurd h (by decide))) (fun o ho => ?_)⟩
  · obtain ⟨es, ck, hm, _⟩ := hq.ans
    rw [km _ es ck hm]; exact ho
  · obtain ⟨es, ck, hm⟩ := hh.map.block
    rw [km _ es ck hm]; exact ho
set_option maxRecDepth 100000 in
set_option maxHeartbeats 32000000 in
theorem qfirst_any (ids : Bs) (ps : List Bool) (A B : Option Addr) (c d : Nat) (w : World) (ha : BytesAt w A ids) (hb : BoolsAt w B ps) (hla : ids.length ≤ 281474976710656) (hlb : ps.length ≤ 9223372036854775807) (hm : MaxOk w) :
    Calls Tryd.prog 4 #[.slice A ids.length c, .slice B ps.length d] w fun e w' => e = .returned (.bool true) ∧ Below w.heap.size w w' := by
  have HKN := Lib.hid (fun (W : World) (h : Below w.heap.size w W) => qknown_any W (hm.below h))
  have HM := Lib.hid hm
  have HA := Lib.hid ha
  have HBB := Lib.hid hb
  by_cases g1 : 60 < ids.length
  · have q1 : (60 : Int) < (ids.length : Int) := by omega
    clear ha hb hm
    go_enter Tryd.func4, Tryd.ntmps4
    go_wp2_with fail
    refine (HKN.out w (Below.refl _ w)).mono ?_
    rintro e wk ⟨rfl, hbk⟩
    have HBK := Lib.hid (show Below w.heap.size w wk from (Below.refl _ w : Below w.heap.size w w).trans (hbk.mono (Below.refl _ w : Below w.heap.size w w).size))
    clear hbk
    go_wp2_with fail
    go_ret
    exact ⟨rfl, HBK.out⟩
  have q1 : ¬ (60 : Int) < (ids.length : Int) := by omega
  by_cases g2 : 80 < ps.length
  · have q2 : (80 : Int) < (ps.length : Int) := by omega
    clear ha hb hm
    go_enter Tryd.func4, Tryd.ntmps4
    go_wp2_with fail
    refine (HKN.out w (Below.refl _ w)).mono ?_
    rintro e wk ⟨rfl, hbk⟩
    have HBK := Lib.hid (show Below w.heap.size w wk from (Below.refl _ w : Below w.heap.size w w).trans (hbk.mono (Below.refl _ w : Below w.heap.size w w).size))
    clear hbk
    go_wp2_with fail
    go_ret
    exact ⟨rfl, HBK.out⟩
  have q2 : ¬ (80 : Int) < (ps.length : Int) := by omega
  have HNEW := Lib.hid (hnew_any [] none 0 w (TreeAt.nil _ _ _ (Nat.zero_le _)) (fun x hx => by cases hx) hm)
  clear ha hb hm
  go_enter Tryd.func4, Tryd.ntmps4
  go_wp2_with fail
  refine HNEW.out.mono ?_
  intro e w1 hp
  unfold NewPost at hp
  rw [if_pos (by rfl)] at hp
  obtain ⟨hb, nv, cv, mb, k0, D, G0, l0, rfl, hH, -, hb1⟩ := hp
  have HQN := Lib.hid (qnew_any hb 100 100 w1 (by decide))
  go_wp2_with fail
  refine HQN.out.mono ?_
  rintro e w2 ⟨qb, ab, rfl, hab, hq2, hb2⟩
  have hne : ab ≠ mb := by
    obtain ⟨es, ck, hy⟩ := hH.map.block
    have := (Array.getElem?_eq_some_iff.1 hy).1
    omega
  have HNE := Lib.hid hne
  have HQ2 := Lib.hid (hq2.lower hb1.size)
  have HH2 := Lib.hid (hH.below hb2)
  have HB2 := Lib.hid (hb1.trans (hb2.mono hb1.size))
  obtain ⟨n, hn⟩ : ∃ n, ids.length = n := ⟨_, rfl⟩
  obtain ⟨m, hmm⟩ : ∃ m, ps.length = m := ⟨_, rfl⟩
  rw [hn] at g1 q1 hla
  rw [hmm] at g2 q2 hlb
  rw [hn, hmm]
  have HN := Lib.hid hn
  have HMM := Lib.hid hmm
  clear hne hab hq2 hH hb1 hb2 hn hmm
  go_wp2_with fail
  go_loopw [8, 9, 10] (fun v8 v9 _ wr => ∃ (k : Nat) (R : List QX) (v v' : Value), v8 = v' ∧ v9 = .int .i64 k ∧ k ≤ n ∧ Hid (R.length ≤ k) ∧ Hid (∀ x ∈ R, x.base = 0 ∧ x.l.map DX.dl = [qA].map DX.dl ∧ 1 ≤ x.id ∧ x.id ≤ 256) ∧ Hid (wr.ownsRow w2.heap.size 3 1 v' R.length (idsV R)) ∧ Hid (QueueAt w.heap.size wr qb hb ab 100 v R []) ∧ Hid (HistAt w.heap.size wr hb 0 (bareX []) (fun _ => 0) nv cv mb k0 D [(G0, l0)]) ∧ Hid (Below w.heap.size w wr) ∧ Hid (w2.heap.size ≤ wr.heap.size)) (fun _ v9 _ _ => n - (intOf v9).toNat)
  case atStart => exact ⟨0, [], .slice none 0 0, _, rfl, rfl, Nat.zero_le _, Lib.hid (Nat.le_refl _), Lib.hid (by simp), Lib.hid (World.ownsRow_nil _ _ _ _), HQ2, HH2, HB2, Lib.hid (Nat.le_refl _)⟩
  case round =>
    obtain ⟨k, R, v, v', hv8, rfl, hk, HRL, HRR, HOW, HQ, HH, HB, HVV⟩ := hrel
    have hv8 := hv8.symm
    subst hv8
    by_cases hlt : k < n
    · have q5 : (k : Int) < (n : Int) := by omega
      obtain ⟨y, hy⟩ : ∃ y, ids[k]? = some y := ⟨_, List.getElem?_eq_getElem (by rw [HN.out]; exact hlt)⟩
      obtain ⟨g, o, hA, hcell⟩ := HA.out (by rw [HN.out]; omega)
      subst hA
      have cw : w.cell? ⟨g, o + k, none⟩ = some (.int .u8 (y.toNat : Int)) := by
        have h := hcell k (by rw [HN.out]; exact hlt)
        rw [show (numsB ids).getD k 0 = (y.toNat : Int) by unfold numsB; simp [List.getD, hy]] at h
        exact h
      have hy255 : y.toNat ≤ 255 := by have := y.toNat_lt; omega
      obtain ⟨yi, hyi⟩ : ∃ yi : Int, (y.toNat : Int) = yi := ⟨_, rfl⟩
      rw [hyi] at cw
      have glt : g < w.heap.size := World.block_lt_of_cell? w (a := ⟨g, o + k, none⟩) cw
      have c1 : wr.cell? ⟨g, o + k, none⟩ = some (.int .u8 yi) := (HB.out.cell (p := ⟨g, o + k, none⟩) glt).trans cw
      have CW := Lib.hid cw
      have HGL := Lib.hid glt
      have hy0 : 0 ≤ yi ∧ yi ≤ 255 := by omega
      obtain ⟨d1, hd1⟩ : ∃ b, wr.heap.size = b := ⟨_, rfl⟩
      obtain ⟨W1, hW1⟩ : ∃ W, wr.alloc (.cells #[.int .i64 1, .string ⟨#[97]⟩, .slice none 0 0] 51) = W := ⟨_, rfl⟩
      have dd1 : DelB W1 d1 := by unfold DelB; rw [← hW1, ← hd1]; exact heap_alloc_new _ _
      have hb1 : Below wr.heap.size wr W1 := by rw [← hW1]; exact (Below.refl _ _).alloc (Nat.le_refl _) _
      have hc1 : W1.cell? ⟨g, o + k, none⟩ = some (.int .u8 yi) := (hb1.cell (p := ⟨g, o + k, none⟩) (World.block_lt_of_cell? wr (a := ⟨g, o + k, none⟩) c1)).trans c1
      have HSZ1 := Lib.hid hb1.size
      have HB1 := Lib.hid (HB.out.trans (hb1.mono HB.out.size))
      have HQ1 := Lib.hid (HQ.out.below hb1)
      have HH1 := Lib.hid (HH.out.below hb1)
      have HOW1 := Lib.hid (ownsRow_belowQ HOW.out hb1)
      have hs1 := submit_any HQ1.out HH1.out (aX d1 (1 + yi)) HB1.out.size dd1.dels small_qA (by have := HRL.out; omega) (key_int _ (by show _ ≤ 1 + yi; omega) (by show 1 + yi ≤ _; omega))
      rw [aX_v] at hs1
      have HS1 := Lib.hid hs1
      cases hw : waitsQ R (1 + yi) with
      | true =>
        have hse : subE 0 100 R [] (aX d1 (1 + yi)) = 12 := sub_twice (by show 1 ≤ 1 + yi; omega) (by show 1 ≠ 0; decide) rfl (by show (hasA [] (1 + yi) || waitsQ R (1 + yi)) = true; rw [hw, Bool.or_true])
        have HSE := Lib.hid hse
        clear hse hs1 hb1 dd1 hcell hy hyi hw cw glt
        go_wp2_with fail
        refine HS1.out.mono ?_
        rintro e w6 ⟨rfl, hp6⟩
        rw [HSE.out] at hp6 ⊢
        rcases hp6 with ⟨_, hb6⟩ | ⟨h, _⟩
        rotate_left
        · cases h
        have HQ6 := Lib.hid (HQ1.out.below hb6)
        have HH6 := Lib.hid (HH1.out.below hb6)
        have HOW6 := Lib.hid (ownsRow_belowQ HOW1.out hb6)
        have HB6 := Lib.hid (HB1.out.trans (hb6.mono HB1.out.size))
        have HSZ6 := Lib.hid (show w2.heap.size ≤ w6.heap.size from Nat.le_trans HVV.out (Nat.le_trans HSZ1.out hb6.size))
        clear hb6 hc1
        go_wp2_with fail
        go_roundw
        case rel => exact ⟨k + 1, R, v, _, rfl, by go_num, by omega, Lib.hid (Nat.le_succ_of_le HRL.out), HRR, HOW6, HQ6, HH6, HB6, HSZ6⟩
        case measure => simp [intOf]; omega
      | false =>
        have hse : subE 0 100 R [] (aX d1 (1 + yi)) = 0 := sub_free (by show 1 ≤ 1 + yi; omega) (by show 1 ≠ 0; decide) rfl rfl (by show waitsQ R (1 + yi) = false; exact hw) (by have := HRL.out; omega)
        have HSE := Lib.hid hse
        clear hse hs1 hb1 dd1 hcell hy hyi hw cw glt
        go_wp2_with fail
        refine HS1.out.mono ?_
        rintro e w6 ⟨rfl, hp6⟩
        rw [HSE.out] at hp6 ⊢
        rcases hp6 with ⟨h, _⟩ | ⟨_, v6, Y, hq6, ⟨hY1, hY2, hY3⟩, ht6, hv6⟩
        · exact absurd rfl h
        have HQ6 := Lib.hid hq6
        have HH6 := Lib.hid (HH1.out.turned HQ1.out ht6)
        have HOW6 := Lib.hid (own_turn HOW1.out HQ1.out ht6)
        have HB6 := Lib.hid (HB1.out.trans (ht6.below (n := w.heap.size) (fun j e => by
          rcases e with rfl | e
          · exact HQ1.out.lq
          · exact (HQ1.out.waits.far e).1) HB1.out.size))
        have hc6 : w6.cell? ⟨g, o + k, none⟩ = some (.int .u8 yi) := (HB6.out.cell (p := ⟨g, o + k, none⟩) HGL.out).trans CW.out
        obtain ⟨ii, hi, hz0, hz1, hz2⟩ := info_parts int_infoQ
        have hl6 := HRL.out
        have hsz6 : w2.heap.size ≤ w6.heap.size := Nat.le_trans HVV.out (Nat.le_trans HSZ1.out ht6.size)
        clear ht6 hv6 hq6 hc1 c1
        go_wp2_with (at_builtin; go_loud (refine wpList_append_own _ rfl _ _ 33 rfl w2.heap.size 3 ii (.int .i64 0) 1 8 Tryd.underlying33 hi hz0 hz1 hz2 rfl (by decide) v' R.length (idsV R) rfl (HOW6.out.alloc _) ⟨w6.heap.size, 0, none⟩ 1 1 [.int .i64 (1 + yi)] rfl rfl (cell_oneQ _ _ _) (by intro u hu; simp only [List.mem_singleton] at hu; subst hu; rfl) (by unfold maxLen; omega) (by omega) (by rw [World.size_alloc]; omega) ?_; intro v9 w9 hown9 hgr9 _))
        have hbA : Below w6.heap.size w6 (w6.alloc (.cells #[.int .i64 (1 + yi)] 3)) := (Below.refl _ _).alloc (Nat.le_refl _) _
        obtain ⟨hq9, hh9⟩ := grown_ints (HOW6.out.alloc _) (HQ6.out.below hbA) (HH6.out.below hbA) hgr9
        have HB9 := Lib.hid ((HB6.out.alloc HB6.out.size _).grown hgr9 (by rw [World.size_alloc]; have := HB6.out.size; omega) (fun j e => Nat.le_trans HB2.out.size (rowT_ge HOW6.out e).1))
        have HO9 := Lib.hid (show w9.ownsRow w2.heap.size 3 1 v9 (R ++ [Y]).length (idsV (R ++ [Y])) by
          have e1 : idsV (R ++ [Y]) = idsV R ++ [.int .i64 (1 + yi)] := by unfold idsV; rw [List.map_append, List.map_singleton, hY1]; rfl
          rw [e1, List.length_append]; exact hown9)
        have HQ9 := Lib.hid hq9
        have HH9 := Lib.hid hh9
        have HSZ9 := Lib.hid (show w2.heap.size ≤ w9.heap.size from Nat.le_trans hsz6 (Nat.le_trans hbA.size hgr9.size))
        have HRR9 := Lib.hid (show ∀ x ∈ R ++ [Y], x.base = 0 ∧ x.l.map DX.dl = [qA].map DX.dl ∧ 1 ≤ x.id ∧ x.id ≤ 256 from fun x hx => by
          rcases List.mem_append.1 hx with h | h
          · exact HRR.out x h
          · obtain rfl : x = Y := by simpa using h
            exact ⟨hY2, hY3, by rw [hY1]; show 1 ≤ 1 + yi; omega, by rw [hY1]; show 1 + yi ≤ 256; omega⟩)
        have HRL9 := Lib.hid (show (R ++ [Y]).length ≤ k + 1 by rw [List.length_append]; simp only [List.length_singleton]; omega)
        clear hown9 hgr9 hbA hq9 hh9 hY1 hY2 hY3
        go_wp2_with fail
        go_roundw
        case rel => exact ⟨k + 1, R ++ [Y], v6, v9, rfl, by go_num, by omega, HRL9, HRR9, HO9, HQ9, HH9, HB9, HSZ9⟩
        case measure => simp [intOf]; omega
    · obtain rfl : k = n := by omega
      have hRn := HRL.out
      obtain ⟨N, hN⟩ : ∃ N, R.length = N := ⟨_, rfl⟩
      obtain ⟨A', c', hv, -, -, -⟩ := ints_slice (l := R.map QX.id) (by rw [← idsV_ints, List.length_map]; exact HOW.out)
      rw [List.length_map, hN] at hv
      subst hv
      have HWT := Lib.hid (waits_any HQ.out (by omega))
      have HN' := Lib.hid hN
      have hN100 : N ≤ 60 := by omega
      have HOW2 := Lib.hid (show wr.ownsRow w2.heap.size 3 1 (.slice A' N c') N (idsV R) by have := HOW.out; rw [hN] at this; exact this)
      clear hv8 hN hlt HOW HRL hRn
      go_wp2_with fail
      refine HWT.out.mono ?_
      rintro e w12 ⟨v12, rfl, hown, hb12⟩
      obtain ⟨A12, c12, hv, -, -, hI12⟩ := ints_slice (l := R.map QX.id) (by rw [← idsV_ints, List.length_map]; exact hown)
      rw [List.length_map, HN'.out] at hv
      subst hv
      have hsi := sameintsI_any (R.map QX.id) (R.map QX.id) A12 A' c12 c' w12 hI12 ((ints_at (by rw [← idsV_ints]; exact HOW2.out) (by rw [List.length_map]; exact HN'.out)).below hb12) (by rw [List.length_map, HN'.out]; omega) (by rw [List.length_map, HN'.out]; omega)
      rw [List.length_map, HN'.out, show decide (R.map QX.id = R.map QX.id) = true by simp] at hsi
      have HSI := Lib.hid hsi
      have HQ12 := Lib.hid (HQ.out.below hb12)
      have HH12 := Lib.hid (HH.out.below hb12)
      have HOW12 := Lib.hid (ownsRow_belowQ HOW2.out hb12)
      have HB12 := Lib.hid (HB.out.trans (hb12.mono HB.out.size))
      clear hsi hown hb12 hI12 HOW2 HWT
      go_wp2_with fail
      refine HSI.out.mono ?_
      rintro e w13 ⟨rfl, hb13⟩
      have HQ13 := Lib.hid (HQ12.out.below hb13)
      have HH13 := Lib.hid (HH12.out.below hb13)
      have HOW13 := Lib.hid (ownsRow_belowQ HOW12.out hb13)
      have HB13 := Lib.hid (HB12.out.trans (hb13.mono HB12.out.size))
      clear hb13 HSI HQ12 HH12 HOW12 HB12
      go_wp2_with fail
      go_loopw [11] (fun v11 wr => ∃ (k : Nat) (T : List QX) (L : List AX) (v : Value) (n : Nat) (nm : List FX) (M : Bs → Nat) (nv cv : Value) (kk : Nat) (D : DataW Unit) (H : List (Nat × List DX)), v11 = .int .i64 k ∧ k ≤ m ∧ Hid (T = R.drop k) ∧ Hid (L.length ≤ k) ∧ Hid (∀ y ∈ L, 1 ≤ y.id) ∧ Hid (QueueAt w.heap.size wr qb hb ab 100 v T L) ∧ Hid (HistAt w.heap.size wr hb n nm M nv cv mb kk D H) ∧ Hid (FS n nm M) ∧ Hid (wr.ownsRow w2.heap.size 3 1 (.slice A' N c') N (idsV R)) ∧ Hid (Below w.heap.size w wr)) (fun v11 _ => m - (intOf v11).toNat)
      case atStart => exact ⟨0, R, [], _, _, _, _, _, _, _, _, _, rfl, Nat.zero_le _, Lib.hid rfl, Lib.hid (Nat.le_refl _), Lib.hid (fun y h => by cases h), HQ13, HH13, Lib.hid (.inl ⟨rfl, rfl, rfl⟩), HOW13, HB13⟩
      case round =>
        clear HQ13 HH13 HOW13 HB13
        obtain ⟨k, T, L, v, n1, nm, M, nv1, cv1, kk, D1, H1, rfl, hk, HT, HLL, HL1, HQ, HH, HFS, HOW, HB⟩ := hrel
        by_cases hlt : k < m
        · have q5 : (k : Int) < (m : Int) := by omega
          obtain ⟨p, hp⟩ : ∃ p, ps[k]? = some p := ⟨_, List.getElem?_eq_getElem (by rw [HMM.out]; exact hlt)⟩
          obtain ⟨ba, hB, hbc⟩ := HBB.out (by rw [HMM.out]; omega)
          subst hB
          have cw := hbc k p hp
          have cb : wr.cell? (ba.add k) = some (.bool p) := (HB.out.cell (p := ba.add k) (World.block_lt_of_cell? w (a := ba.add k) cw)).trans cw
          clear hp hbc cw
          cases T with
          | nil =>
            have hkN : N ≤ k := by
              have h1 := congrArg List.length HT.out
              rw [List.length_drop, HN'.out, List.length_nil] at h1
              omega
            cases A' with
            | none =>
              have HST := Lib.hid (step_none HQ.out p)
              have q6 : ¬ (k : Int) < (N : Int) := by omega
              have HKN2 := Lib.hid hkN
              clear hkN
              go_wp2_with fail
              refine HST.out.mono ?_
              rintro e w7 ⟨rfl, hb7⟩
              simp only [noA, AX.v]
              obtain ⟨b8, hb8⟩ : ∃ b, w7.heap.size = b := ⟨_, rfl⟩
              obtain ⟨W8, hW8⟩ : ∃ W, w7.alloc (.cells #[.int .i64 0, .int .i64 0, .int .i64 0, .int .i64 0] 36) = W := ⟨_, rfl⟩
              have a8 : AnsB W8 b8 noA := by unfold AnsB; rw [← hW8, ← hb8]; exact heap_alloc_new _ _
              have hbl8 : Below w7.heap.size w7 W8 := by rw [← hW8]; exact (Below.refl _ _).alloc (Nat.le_refl _) _
              obtain ⟨a8s, g8⟩ := a8.store ⟨0, 0, 0, 0⟩
              simp only at a8s g8
              obtain ⟨V8, hV8⟩ : ∃ W, (((W8.setCell ⟨b8, 0, none⟩ (.int .i64 0)).setCell ⟨b8, 1, none⟩ (.int .i64 0)).setCell ⟨b8, 2, none⟩ (.int .i64 0)).setCell ⟨b8, 3, none⟩ (.int .i64 0) = W := ⟨_, rfl⟩
              rw [hV8] at a8s g8
              have hbm8 : Below w7.heap.size w7 V8 := hbl8.grown g8 hbl8.size (fun j e => by cases e; omega)
              obtain ⟨z0, z1, z2, z3, z4, z5, z6, z7⟩ := a8.facts
              simp only [noA] at z0 z1 z2 z3
              have HV8 := Lib.hid hV8
              have A8 := Lib.hid a8s
              clear a8 hbl8 hV8 g8 a8s
              have hz8 : Below wr.heap.size wr V8 := hb7.trans (hbm8.mono hb7.size)
              have hlk := fun (q : Nat) => ask_any (HQ.out.below (hz8.trans (belowQn (Below.refl _ _) q))) 0 (key_int 0 (by omega) (by omega))
              simp only [(look_no HL1.out).1, (look_no HL1.out).2] at hlk
              simp only [noA, AX.v] at hlk
              have HLK := Lib.hid hlk
              have HZ8 := Lib.hid hz8
              clear hbm8 hb7 hz8 hlk HST
              go_upto_region 20 with fail
              rw [HV8.out]
              clear z0 z1 z2 z3 z4 z5 z6 z7 hW8 hb8
              obtain ⟨y0, y1, y2, y3, -, -, -, -⟩ := A8.out.facts
              simp only at y0 y1 y2 y3
              have g1 : decide ((k : Int) < (N : Int)) = false := decide_eq_false (by omega)
              have g1n : decide (k < N) = false := decide_eq_false (by omega)
              go_wp2_with fail
              go_quiet (fail)
              go_wp2_with fail
              refine (HLK.out _).mono ?_
              rintro e w10 ⟨rfl, hb10⟩
              have hb10 := (belowQn (Below.refl _ _) _).trans hb10
              have A10 := Lib.hid (row_belowQ A8.out hb10)
              clear y0 y1 y2 y3 g1 g1n
              obtain ⟨b11, hb11⟩ : ∃ b, w10.heap.size = b := ⟨_, rfl⟩
              obtain ⟨W11, hW11⟩ : ∃ W, w10.alloc (.cells #[.int .i64 0, .int .i64 0, .int .i64 0, .int .i64 0] 36) = W := ⟨_, rfl⟩
              have a11 : AnsB W11 b11 noA := by unfold AnsB; rw [← hW11, ← hb11]; exact heap_alloc_new _ _
              have hbl11 : Below w10.heap.size w10 W11 := by rw [← hW11]; exact (Below.refl _ _).alloc (Nat.le_refl _) _
              obtain ⟨a11s, g11⟩ := a11.store ⟨0, 0, 0, 0⟩
              simp only at a11s g11
              obtain ⟨V11, hV11⟩ : ∃ W, (((W11.setCell ⟨b11, 0, none⟩ (.int .i64 0)).setCell ⟨b11, 1, none⟩ (.int .i64 0)).setCell ⟨b11, 2, none⟩ (.int .i64 0)).setCell ⟨b11, 3, none⟩ (.int .i64 0) = W := ⟨_, rfl⟩
              rw [hV11] at a11s g11
              have hbm11 : Below w10.heap.size w10 V11 := hbl11.grown g11 hbl11.size (fun j e => by cases e; omega)
              obtain ⟨z0, z1, z2, z3, z4, z5, z6, z7⟩ := a11.facts
              simp only [noA] at z0 z1 z2 z3
              have HV11 := Lib.hid hV11
              have A11 := Lib.hid a11s
              clear a11 hbl11 hV11 g11 a11s
              have a8b : AnsB V11 b8 noA := row_belowQ A10.out hbm11
              have hz11 : Below wr.heap.size wr V11 := HZ8.out.trans ((hb10.trans (hbm11.mono hb10.size)).mono HZ8.out.size)
              have HZ11 := Lib.hid hz11
              have A8B := Lib.hid a8b
              clear hbm11 a8b hz11 hb10 HLK
              go_upto_region 23 with fail
              rw [HV11.out]
              clear z0 z1 z2 z3 z4 z5 z6 z7 hW11 hb11
              obtain ⟨y0, y1, y2, y3, -, -, -, -⟩ := A11.out.facts
              obtain ⟨u0, u1, u2, u3, -, -, -, -⟩ := A8B.out.facts
              simp only [noA] at y0 y1 y2 y3 u0 u1 u2 u3
              go_wp2_with fail
              go_roundw
              case rel => exact ⟨k + 1, [], L, v, n1, nm, M, nv1, cv1, kk, D1, H1, by go_num, by omega, Lib.hid (by rw [List.drop_eq_nil_of_le (by rw [HN'.out]; have := HKN2.out; omega)]), Lib.hid (Nat.le_succ_of_le HLL.out), HL1, Lib.hid (HQ.out.below HZ11.out), Lib.hid (HH.out.below HZ11.out), HFS, Lib.hid (ownsRow_belowQ HOW.out HZ11.out), Lib.hid (HB.out.trans (HZ11.out.mono HB.out.size))⟩
              case measure => simp [intOf]; omega
            | some Ao =>
              have HST := Lib.hid (step_none HQ.out p)
              have q6 : ¬ (k : Int) < (N : Int) := by omega
              have HKN2 := Lib.hid hkN
              clear hkN
              go_wp2_with fail
              refine HST.out.mono ?_
              rintro e w7 ⟨rfl, hb7⟩
              simp only [noA, AX.v]
              obtain ⟨b8, hb8⟩ : ∃ b, w7.heap.size = b := ⟨_, rfl⟩
              obtain ⟨W8, hW8⟩ : ∃ W, w7.alloc (.cells #[.int .i64 0, .int .i64 0, .int .i64 0, .int .i64 0] 36) = W := ⟨_, rfl⟩
              have a8 : AnsB W8 b8 noA := by unfold AnsB; rw [← hW8, ← hb8]; exact heap_alloc_new _ _
              have hbl8 : Below w7.heap.size w7 W8 := by rw [← hW8]; exact (Below.refl _ _).alloc (Nat.le_refl _) _
              obtain ⟨a8s, g8⟩ := a8.store ⟨0, 0, 0, 0⟩
              simp only at a8s g8
              obtain ⟨V8, hV8⟩ : ∃ W, (((W8.setCell ⟨b8, 0, none⟩ (.int .i64 0)).setCell ⟨b8, 1, none⟩ (.int .i64 0)).setCell ⟨b8, 2, none⟩ (.int .i64 0)).setCell ⟨b8, 3, none⟩ (.int .i64 0) = W := ⟨_, rfl⟩
              rw [hV8] at a8s g8
              have hbm8 : Below w7.heap.size w7 V8 := hbl8.grown g8 hbl8.size (fun j e => by cases e; omega)
              obtain ⟨z0, z1, z2, z3, z4, z5, z6, z7⟩ := a8.facts
              simp only [noA] at z0 z1 z2 z3
              have HV8 := Lib.hid hV8
              have A8 := Lib.hid a8s
              clear a8 hbl8 hV8 g8 a8s
              have hz8 : Below wr.heap.size wr V8 := hb7.trans (hbm8.mono hb7.size)
              have hlk := fun (q : Nat) => ask_any (HQ.out.below (hz8.trans (belowQn (Below.refl _ _) q))) 0 (key_int 0 (by omega) (by omega))
              simp only [(look_no HL1.out).1, (look_no HL1.out).2] at hlk
              simp only [noA, AX.v] at hlk
              have HLK := Lib.hid hlk
              have HZ8 := Lib.hid hz8
              clear hbm8 hb7 hz8 hlk HST
              go_upto_region 20 with fail
              rw [HV8.out]
              clear z0 z1 z2 z3 z4 z5 z6 z7 hW8 hb8
              obtain ⟨y0, y1, y2, y3, -, -, -, -⟩ := A8.out.facts
              simp only at y0 y1 y2 y3
              have g1 : decide ((k : Int) < (N : Int)) = false := decide_eq_false (by omega)
              have g1n : decide (k < N) = false := decide_eq_false (by omega)
              go_wp2_with fail
              go_quiet (fail)
              go_wp2_with fail
              refine (HLK.out _).mono ?_
              rintro e w10 ⟨rfl, hb10⟩
              have hb10 := (belowQn (Below.refl _ _) _).trans hb10
              have A10 := Lib.hid (row_belowQ A8.out hb10)
              clear y0 y1 y2 y3 g1 g1n
              obtain ⟨b11, hb11⟩ : ∃ b, w10.heap.size = b := ⟨_, rfl⟩
              obtain ⟨W11, hW11⟩ : ∃ W, w10.alloc (.cells #[.int .i64 0, .int .i64 0, .int .i64 0, .int .i64 0] 36) = W := ⟨_, rfl⟩
              have a11 : AnsB W11 b11 noA := by unfold AnsB; rw [← hW11, ← hb11]; exact heap_alloc_new _ _
              have hbl11 : Below w10.heap.size w10 W11 := by rw [← hW11]; exact (Below.refl _ _).alloc (Nat.le_refl _) _
              obtain ⟨a11s, g11⟩ := a11.store ⟨0, 0, 0, 0⟩
              simp only at a11s g11
              obtain ⟨V11, hV11⟩ : ∃ W, (((W11.setCell ⟨b11, 0, none⟩ (.int .i64 0)).setCell ⟨b11, 1, none⟩ (.int .i64 0)).setCell ⟨b11, 2, none⟩ (.int .i64 0)).setCell ⟨b11, 3, none⟩ (.int .i64 0) = W := ⟨_, rfl⟩
              rw [hV11] at a11s g11
              have hbm11 : Below w10.heap.size w10 V11 := hbl11.grown g11 hbl11.size (fun j e => by cases e; omega)
              obtain ⟨z0, z1, z2, z3, z4, z5, z6, z7⟩ := a11.facts
              simp only [noA] at z0 z1 z2 z3
              have HV11 := Lib.hid hV11
              have A11 := Lib.hid a11s
              clear a11 hbl11 hV11 g11 a11s
              have a8b : AnsB V11 b8 noA := row_belowQ A10.out hbm11
              have hz11 : Below wr.heap.size wr V11 := HZ8.out.trans ((hb10.trans (hbm11.mono hb10.size)).mono HZ8.out.size)
              have HZ11 := Lib.hid hz11
              have A8B := Lib.hid a8b
              clear hbm11 a8b hz11 hb10 HLK
              go_upto_region 23 with fail
              rw [HV11.out]
              clear z0 z1 z2 z3 z4 z5 z6 z7 hW11 hb11
              obtain ⟨y0, y1, y2, y3, -, -, -, -⟩ := A11.out.facts
              obtain ⟨u0, u1, u2, u3, -, -, -, -⟩ := A8B.out.facts
              simp only [noA] at y0 y1 y2 y3 u0 u1 u2 u3
              go_wp2_with fail
              go_roundw
              case rel => exact ⟨k + 1, [], L, v, n1, nm, M, nv1, cv1, kk, D1, H1, by go_num, by omega, Lib.hid (by rw [List.drop_eq_nil_of_le (by rw [HN'.out]; have := HKN2.out; omega)]), Lib.hid (Nat.le_succ_of_le HLL.out), HL1, Lib.hid (HQ.out.below HZ11.out), Lib.hid (HH.out.below HZ11.out), HFS, Lib.hid (ownsRow_belowQ HOW.out HZ11.out), Lib.hid (HB.out.trans (HZ11.out.mono HB.out.size))⟩
              case measure => simp [intOf]; omega
          | cons x T =>
            obtain ⟨hkN, hx⟩ : k < N ∧ R[k]? = some x := by
              have h1 := congrArg (fun l => l[0]?) HT.out
              simp only [List.getElem?_cons_zero, List.getElem?_drop, Nat.add_zero] at h1
              refine ⟨?_, h1.symm⟩
              have := (List.getElem?_eq_some_iff.1 h1.symm).1
              rw [HN'.out] at this; exact this
            have hxr := HRR.out x (List.mem_of_getElem? hx)
            have hTT : T = R.drop (k + 1) := by
              have h1 := congrArg List.tail HT.out
              simpa using h1
            have hTl : T.length ≤ 100000 := by rw [hTT, List.length_drop, HN'.out]; omega
            have hst := step_any w HQ.out HH.out HNE.out HB.out p (by have := HFS.out.le; omega) hTl (by have := HLL.out; omega) HM.out (key_int x.id (by omega) (by omega))
            have HST := Lib.hid hst
            have HX := Lib.hid hx
            have HXR := Lib.hid hxr
            have HTT := Lib.hid hTT
            have q6 : (k : Int) < (N : Int) := by omega
            clear hx hxr hTT hTl hst HT
            go_wp2_with fail
            refine HST.out.mono ?_
            rintro e w7 ⟨a, v7, rfl, hq7, hst7, hbw7, hf7, hv7⟩
            have hid := hst7.id
            obtain ⟨i0, i1, i2, i3⟩ := a
            simp only at hid
            obtain ⟨xi, hxi⟩ : ∃ i, x.id = i := ⟨_, rfl⟩
            rw [hxi] at hid
            subst hid
            obtain ⟨n2, nm2, M2, nv2, cv2, kk2, D2, H2, hh7, hfs7⟩ := FS.step hst7 HFS.out ⟨HXR.out.1, HXR.out.2.1⟩
            simp only [AX.v]
            have how7 := own_frame HOW.out HQ.out hf7
            have hB7 := HB.out.trans hbw7
            obtain ⟨b8, hb8⟩ : ∃ b, w7.heap.size = b := ⟨_, rfl⟩
            obtain ⟨W8, hW8⟩ : ∃ W, w7.alloc (.cells #[.int .i64 0, .int .i64 0, .int .i64 0, .int .i64 0] 36) = W := ⟨_, rfl⟩
            have a8 : AnsB W8 b8 noA := by unfold AnsB; rw [← hW8, ← hb8]; exact heap_alloc_new _ _
            have hbl8 : Below w7.heap.size w7 W8 := by rw [← hW8]; exact (Below.refl _ _).alloc (Nat.le_refl _) _
            obtain ⟨a8s, g8⟩ := a8.store ⟨i0, i1, i2, i3⟩
            simp only at a8s g8
            obtain ⟨V8, hV8⟩ : ∃ W, (((W8.setCell ⟨b8, 0, none⟩ (.int .i64 i0)).setCell ⟨b8, 1, none⟩ (.int .i64 i1)).setCell ⟨b8, 2, none⟩ (.int .i64 i2)).setCell ⟨b8, 3, none⟩ (.int .i64 i3) = W := ⟨_, rfl⟩
            rw [hV8] at a8s g8
            have hbm8 : Below w7.heap.size w7 V8 := hbl8.grown g8 hbl8.size (fun j e => by cases e; omega)
            obtain ⟨z0, z1, z2, z3, z4, z5, z6, z7⟩ := a8.facts
            simp only [noA] at z0 z1 z2 z3
            have HV8 := Lib.hid hV8
            have A8 := Lib.hid a8s
            clear a8 hbl8 hV8 g8 a8s
            have hq8 := hq7.below hbm8
            have hlk := fun (q : Nat) => ask_any (hq8.below (belowQn (Below.refl _ _) q)) i0 (key_int i0 (by have := HXR.out; omega) (by have := HXR.out; omega))
            simp only [(look_self ⟨i0, i1, i2, i3⟩ L).1, (look_self ⟨i0, i1, i2, i3⟩ L).2, AX.v] at hlk
            have HLK := Lib.hid hlk
            have HQ8 := Lib.hid hq8
            have HH8 := Lib.hid (hh7.below hbm8)
            have hO8 := ownsRow_belowQ how7 hbm8
            have HO8 := Lib.hid hO8
            have HB8 := Lib.hid (hB7.trans (hbm8.mono hB7.size))
            have HFS8 := Lib.hid hfs7
            obtain ⟨og, oo, hA', hoc⟩ := (ints_at (by rw [← idsV_ints]; exact hO8) (by rw [List.length_map]; exact HN'.out) : IntsI V8 A' (R.map QX.id)) (by rw [List.length_map, HN'.out]; omega)
            have co := hoc k i0 (by rw [List.getElem?_map, HX.out, ← hxi]; rfl)
            subst hA'
            have HXI := Lib.hid hxi
            clear hbm8 hq8 hlk hq7 hst7 hbw7 hf7 hv7 hh7 hfs7 how7 hB7 hO8 hoc hxi HST
            go_upto_region 20 with fail
            rw [HV8.out]
            clear z0 z1 z2 z3 z4 z5 z6 z7 hW8 hb8
            obtain ⟨y0, y1, y2, y3, -, -, -, -⟩ := A8.out.facts
            simp only at y0 y1 y2 y3
            have g1 : decide ((k : Int) < (N : Int)) = true := decide_eq_true (by omega)
            have g2 : ((i0 : Int) != (i0 : Int)) = false := by simp
            go_wp2_with fail
            go_quiet (fail)
            go_wp2_with fail
            refine (HLK.out _).mono ?_
            rintro e w10 ⟨rfl, hb10⟩
            have hb10 := (belowQn (Below.refl _ _) _).trans hb10
            have A10 := Lib.hid (row_belowQ A8.out hb10)
            clear y0 y1 y2 y3 g1 g2 co
            obtain ⟨b11, hb11⟩ : ∃ b, w10.heap.size = b := ⟨_, rfl⟩
            obtain ⟨W11, hW11⟩ : ∃ W, w10.alloc (.cells #[.int .i64 0, .int .i64 0, .int .i64 0, .int .i64 0] 36) = W := ⟨_, rfl⟩
            have a11 : AnsB W11 b11 noA := by unfold AnsB; rw [← hW11, ← hb11]; exact heap_alloc_new _ _
            have hbl11 : Below w10.heap.size w10 W11 := by rw [← hW11]; exact (Below.refl _ _).alloc (Nat.le_refl _) _
            obtain ⟨a11s, g11⟩ := a11.store ⟨i0, i1, i2, i3⟩
            simp only at a11s g11
            obtain ⟨V11, hV11⟩ : ∃ W, (((W11.setCell ⟨b11, 0, none⟩ (.int .i64 i0)).setCell ⟨b11, 1, none⟩ (.int .i64 i1)).setCell ⟨b11, 2, none⟩ (.int .i64 i2)).setCell ⟨b11, 3, none⟩ (.int .i64 i3) = W := ⟨_, rfl⟩
            rw [hV11] at a11s g11
            have hbm11 : Below w10.heap.size w10 V11 := hbl11.grown g11 hbl11.size (fun j e => by cases e; omega)
            obtain ⟨z0, z1, z2, z3, z4, z5, z6, z7⟩ := a11.facts
            simp only [noA] at z0 z1 z2 z3
            have HV11 := Lib.hid hV11
            have A11 := Lib.hid a11s
            clear a11 hbl11 hV11 g11 a11s
            have a8b : AnsB V11 b8 ⟨i0, i1, i2, i3⟩ := row_belowQ A10.out hbm11
            have hz11 : Below V8.heap.size V8 V11 := hb10.trans (hbm11.mono hb10.size)
            have HZ11 := Lib.hid hz11
            have A8B := Lib.hid a8b
            clear hbm11 a8b hz11 hb10 HLK
            go_upto_region 23 with fail
            rw [HV11.out]
            clear z0 z1 z2 z3 z4 z5 z6 z7 hW11 hb11
            obtain ⟨y0, y1, y2, y3, -, -, -, -⟩ := A11.out.facts
            obtain ⟨u0, u1, u2, u3, -, -, -, -⟩ := A8B.out.facts
            simp only at y0 y1 y2 y3 u0 u1 u2 u3
            go_wp2_with fail
            go_roundw
            case rel => exact ⟨k + 1, T, ⟨i0, i1, i2, i3⟩ :: L, v7, n2, nm2, M2, nv2, cv2, kk2, D2, H2, by go_num, by omega, HTT, Lib.hid (by rw [List.length_cons]; exact Nat.succ_le_succ HLL.out), Lib.hid (fun y hy => by
                                               rcases List.mem_cons.1 hy with rfl | hy
                                               · show 1 ≤ i0
                                                 have := HXR.out.2.2.1; rw [HXI.out] at this; exact this
                                               · exact HL1.out y hy), Lib.hid (HQ8.out.below HZ11.out), Lib.hid (HH8.out.below HZ11.out), HFS8, Lib.hid (ownsRow_belowQ HO8.out HZ11.out), Lib.hid (HB8.out.trans (HZ11.out.mono HB8.out.size))⟩
            case measure => simp [intOf]; omega
        · obtain ⟨hA, hcc, hcv, -⟩ := HH.out.commit_slice
          have HHD := Lib.hid (by have h := HH.out.heap; rw [hcv] at h; exact hhead_any hb hA _ hcc wr (cell_of_row wr hb 1 _ _ _ h))
          have q6 : (n1 : Int) ≤ 1 := by have := HFS.out.le; omega
          have q7 : ¬ (k : Int) < (m : Int) := by omega
          have HK := Lib.hid (HKN.out wr HB.out)
          clear hcv
          go_wp2_with fail
          refine HHD.out.mono ?_
          rintro e w15 ⟨rfl, hw15⟩
          have hw15 := hw15.symm
          subst hw15
          go_wp2_with fail
          refine HK.out.mono ?_
          rintro e w16 ⟨rfl, hb16⟩
          have HB16 := Lib.hid (HB.out.trans (hb16.mono HB.out.size))
          clear hb16
          go_wp2_with fail
          go_ret
          exact ⟨rfl, HB16.out⟩
end Go.Proofs.YtnkfnmkbfnhmfaaDoor
