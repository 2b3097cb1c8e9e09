/-
  SameLists; the document's own Next and All of layer 5.
-/
import Derived.Test.YtojkifcclgecoaaFrJoin
namespace Go.Proofs.Ytojkifcclgecoaa
open Go Go.RowKit Go.Shelf Go.Proofs

theorem fr_strs (A : Option Addr) (c : Nat) (b : Bs) (w : World) (h : BytesAt w A b) : ∀ n, (convert 29 9 (.slice A b.length c)).run Try.prog (w.drewN n) = .ok (.string (mkB b)) (w.drewN n) := fun n => fr_str (w.drewN n) A c b h
theorem fr_drewN {B : Nat} {a w : World} (h : Below B a w) (n : Nat) : Below B a (w.drewN n) := ⟨h.os, h.tape, h.output, h.size, h.block⟩
def bsTo (l m : List BX) (k : Nat) : Bool := (l.take k).map BX.b == (m.take k).map BX.b
theorem same_next {l m : List BX} {k : Nat} {x y : BX} (hx : l[k]? = some x) (hy : m[k]? = some y) (h : (l.take k).map BX.b = (m.take k).map BX.b) : ((l.take (k + 1)).map BX.b = (m.take (k + 1)).map BX.b) ↔ x.b = y.b := by
  rw [List.take_add_one, List.take_add_one, hx, hy, List.map_append, List.map_append, h]
  simp
theorem same_not {l m : List BX} {k : Nat} {x y : BX} (hx : l[k]? = some x) (hy : m[k]? = some y) (h : x.b ≠ y.b) : l.map BX.b ≠ m.map BX.b := fun e => by
  have h1 := congrArg (fun z => z[k]?) e
  simp only [List.getElem?_map, hx, hy, Option.map_some, Option.some.injEq] at h1
  exact h h1

set_option maxHeartbeats 4000000 in
theorem samelists_any (l m : List BX) (A B : Option Addr) (c d : Nat) (w : World) (h : BRowAt w A c l) (h2 : BRowAt w B d m) :
    Calls Try.prog 21 #[.slice A l.length c, .slice B m.length d] w fun e w' => e = .returned (.bool (decide (l.map BX.b = m.map BX.b))) ∧ Below w.heap.size w w' := by
  have hcap : l.length ≤ maxLen := Nat.le_trans h.cap h.capm
  unfold maxLen at hcap
  have HT := Lib.hid h; clear h
  have HU := Lib.hid h2; clear h2
  by_cases hlm : l.length = m.length
  · have e0 : ((l.length : Int) != (m.length : Int)) = false := by rw [hlm]; simp
    have e1 : ((l.length : Int) = (m.length : Int)) = True := eq_true (by omega)
    have HLM := Lib.hid hlm
    go_enter Try.func21, Try.ntmps21
    go_wp2_with fail
    clear e0 e1
    go_loopw [5] (fun i wr => ∃ (k : Nat), k ≤ l.length ∧ i = .int .i64 k ∧ Hid ((l.take k).map BX.b = (m.take k).map BX.b) ∧ Below w.heap.size w wr) (fun i _ => l.length - (intOf i).toNat)
    case atStart => exact ⟨0, Nat.zero_le _, rfl, rfl, Below.refl _ _⟩
    case round =>
      obtain ⟨k, hk, rfl, HS, hbr⟩ := hrel
      by_cases h1 : k < l.length
      · obtain ⟨x, hx⟩ : ∃ x, l[k]? = some x := ⟨_, List.getElem?_eq_getElem h1⟩
        obtain ⟨y, hy⟩ : ∃ y, m[k]? = some y := ⟨_, List.getElem?_eq_getElem (by omega)⟩
        obtain ⟨g, o, rfl, hr⟩ := (HT.out.below hbr).row (by omega)
        obtain ⟨g', o', rfl, hr'⟩ := (HU.out.below hbr).row (by omega)
        have c1 := hr k x hx
        have c2 := hr' k y hy
        have k1 : (k : Int) < (l.length : Int) := by omega
        have k2 : (k : Int) < (m.length : Int) := by omega
        have r1 := fr_strs x.A x.c x.b wr ((HT.out.bytes x (List.mem_of_getElem? hx)).below hbr)
        have r2 := fr_strs y.A y.c y.b wr ((HU.out.bytes y (List.mem_of_getElem? hy)).below hbr)
        have HNX := Lib.hid (same_next hx hy HS.out)
        have HNO := Lib.hid (fun h => same_not hx hy h)
        have he := fr_mkB_eq x.b y.b
        clear hr hr' hx hy
        by_cases hxy : x.b = y.b
        · have he2 : ((mkB x.b).toList == (mkB y.b).toList) = true := by rw [he]; simpa using hxy
          have HXY := Lib.hid hxy
          clear he hxy
          go_wp2_with fail
          go_quiet (fail)
          go_wp2_with fail
          go_roundw
          case rel => exact ⟨k + 1, by omega, by go_num, HNX.out.2 HXY.out, fr_drewN hbr _⟩
          case measure => simp [intOf]; omega
        · have he2 : ((mkB x.b).toList == (mkB y.b).toList) = false := by rw [he]; simpa using hxy
          have hne := HNO.out hxy
          have HNE := Lib.hid hne
          clear he hxy hne
          go_wp2_with fail
          go_quiet (fail)
          go_wp2_with fail
          go_ret
          exact ⟨ret_b (decide_eq_false HNE.out).symm, fr_drewN hbr _⟩
      · obtain rfl : k = l.length := by omega
        have hS := HS.out
        rw [List.take_length, HLM.out, List.take_length] at hS
        have HD := Lib.hid hS; clear hS HS
        go_wp2_with fail
        go_ret
        exact ⟨ret_b (decide_eq_true HD.out).symm, hbr⟩
  · have e0 : ((l.length : Int) != (m.length : Int)) = true := by simp; omega
    have e1 : ((l.length : Int) = (m.length : Int)) = False := eq_false (by omega)
    have hne : ¬ l.map BX.b = m.map BX.b := fun e => hlm (by have := congrArg List.length e; simpa using this)
    go_enter Try.func21, Try.ntmps21
    go_wp2_with fail
    go_ret
    exact ⟨ret_b (decide_eq_false hne).symm, Below.refl _ _⟩

/-- What the document's own Next answers. -/
def RefNextPost (A : Option Addr) (b : Bs) (w : World) (e : Ending) (w' : World) : Prop := ∃ (A' : Option Addr) (c' : Nat) (x : Bs) (n : Nat), e = .returned (.tuple #[.slice A' x.length c', .int .i64 n]) ∧ SlAt w' A' c' x ∧ (∀ k, InB A' k → InB A k) ∧ ((nextF b = some x ∧ n = 8 + x.length) ∨ (nextF b = none ∧ x = [] ∧ n = 0)) ∧ Below w.heap.size w w'
theorem isF_of {b : Bs} (h : isF b) : nextF b = some ((b.drop 8).take (valN (b.take 4))) := by unfold nextF; rw [if_pos h]
theorem isF_not {b : Bs} (h : ¬ isF b) : nextF b = none := by unfold nextF; rw [if_neg h]
/-- Where the length fits, a frame is told by its bytes. -/
theorem next_by {b : Bs} (h8 : 8 ≤ b.length) (hm : valN (b.take 4) ≤ 65536) (hl : valN (b.take 4) ≤ b.length - 8) :
    isF b ↔ encF ((b.drop 8).take (valN (b.take 4))) = b.take (8 + valN (b.take 4)) := by
  have tl : ((b.drop 8).take (valN (b.take 4))).length = valN (b.take 4) := by rw [List.length_take, List.length_drop]; omega
  constructor
  · intro h
    have h1 := (next_some (isF_of h)).1
    rw [tl] at h1
    have e := congrArg (List.take (8 + valN (b.take 4))) h1
    rw [List.take_left' (by rw [encF_length, tl])] at e
    exact e.symm
  · intro h
    refine ⟨h8, hm, hl, ?_⟩
    have e1 : sizeF ((b.drop 8).take (valN (b.take 4))) = b.take 4 := by unfold sizeF; rw [tl]; exact be_val 4 _ (by rw [List.length_take]; omega)
    have h2 : (encF ((b.drop 8).take (valN (b.take 4)))).take 8 = b.take 8 := by rw [h, List.take_take, Nat.min_eq_left (by omega)]
    have h3 : (encF ((b.drop 8).take (valN (b.take 4)))).take 8 = sizeF ((b.drop 8).take (valN (b.take 4))) ++ sumF ((b.drop 8).take (valN (b.take 4))) := by
      unfold encF
      rw [← List.append_assoc]
      exact List.take_left' (by unfold sizeF sumF; rw [List.length_append, beN_length, beN_length])
    have h4 : sumF ((b.drop 8).take (valN (b.take 4))) = (b.drop 4).take 4 := by
      have h5 : b.take 8 = b.take 4 ++ (b.drop 4).take 4 := List.take_add (i := 4) (j := 4)
      rw [h3, h5, e1] at h2
      exact List.append_cancel_left h2
    have h5 := congrArg valN h4
    unfold sumF at h5
    rw [val_be, Nat.mod_eq_of_lt (sum_lt32 _), e1] at h5
    exact h5

/-- A row of the call's own, of pieces that lie below it. -/
structure RowsP (base : Nat) (W : World) (v : Value) (l : List BX) : Prop where
  own : W.ownsRow base 29 1 v l.length (l.map BX.v)
  bod : ∀ x ∈ l, SlAt W x.A x.c x.b ∧ (∀ k, InB x.A k → k < base) ∧ x.b.length ≤ 1000000
theorem RowsP.nil (base : Nat) (W : World) : RowsP base W (.slice none 0 0) [] := ⟨World.ownsRow_nil _ _ _ _, fun x hx => by cases hx⟩
theorem RowsP.below {base : Nat} {W W' : World} {v : Value} {l : List BX} (h : RowsP base W v l) (hb : Below W.heap.size W W') : RowsP base W' v l :=
  ⟨World.ownsRow.kept (row := none) h.own ⟨hb.os, hb.tape, hb.output, hb.size, fun k hk _ => hb.block k hk⟩ (by cases (Value.ownBlock v) <;> simp), fun x hx => ⟨(h.bod x hx).1.below hb, (h.bod x hx).2⟩⟩
theorem RowsP.slice {base : Nat} {W : World} {v : Value} {l : List BX} (h : RowsP base W v l) : ∃ A c, v = .slice A l.length c ∧ BRowAt W A c l := by
  have hl : ∀ x ∈ l, x.b.length ≤ x.c ∧ x.c ≤ maxLen ∧ x.b.length ≤ reachBytes := fun x hx => by
    have h1 := h.bod x hx
    exact ⟨h1.1.cap, h1.1.capm, by unfold reachBytes; omega⟩
  rcases h.own.2 with ⟨rfl, hn⟩ | ⟨g, cap, cur, rfl, _, hg, hnc, hcm, _⟩
  · obtain rfl := List.eq_nil_of_length_eq_zero hn
    exact ⟨none, 0, rfl, BRowAt.nil _ _ _ (Nat.zero_le _)⟩
  · refine ⟨_, _, rfl, hnc, hcm, fun _ => ⟨g, 0, rfl, fun i x hi => ?_⟩, fun x hx => (h.bod x hx).1.bytes, hl⟩
    have h1 := World.ownsRow.cells h.own (g := g) rfl i x.v (by rw [List.getElem?_map, hi]; rfl)
    rw [Go.WideShapes.add_plain] at h1
    exact h1
theorem SlAt.keepIn {w w' : World} {A : Option Addr} {c : Nat} {b : Bs} (h : SlAt w A c b) (hk : ∀ k, InB A k → k < w.heap.size → w'.heap[k]? = w.heap[k]?) : SlAt w' A c b :=
  ⟨h.bytes.keep fun g _ e hg => hk g ⟨_, e, rfl⟩ hg, h.cap, h.capm, h.nil⟩
theorem wpList_appP {base : Nat} {w : World} {v : Value} {l : List BX} {ops : Array Oper} {rest : List Oper} {o : Oper} {a : Act} {Q : Exit → Act → World → Prop} (hgd : o.guard = none) (s x : Operand)
    (ho : o.op = .call { callee := .builtin .append, args := #[s, x], argTypes := #[30, 30] }) (hs : a.eval s = v) (hr : RowsP base w v l) (y : BX) (hy : SlAt w y.A y.c y.b) (hyb : ∀ k, InB y.A k → k < base) (hyl : y.b.length ≤ 1000000)
    (g : Nat) (hx : a.eval x = .slice (some ⟨g, 0, none⟩) 1 1) (hcell : w.cell? ⟨g, 0, none⟩ = some y.v) (hlen : l.length ≤ 1000000) (hbase : base ≤ w.heap.size)
    (h : ∀ v' w', RowsP base w' v' (l ++ [y]) → w.grownBy w' v.ownBlock → wpList Try.prog ops Q rest (a.put o.dst v') w') : wpList Try.prog ops Q (o :: rest) a w := by
  obtain ⟨i0, hi, hz0, hz1, hz2⟩ := info_parts fr_bytes_info
  refine wpList_append_own w hgd s x 30 ho base 29 i0 (.slice none 0 0) 1 24 Try.underlying30 hi hz0 hz1 hz2 rfl (by decide) v l.length (l.map BX.v) hs hr.own ⟨g, 0, none⟩ 1 1 [y.v] hx rfl
    (fun j u hu => by
      have hj : j = 0 := by
        have := (List.getElem?_eq_some_iff.1 hu).1
        simp at this; omega
      subst hj
      obtain rfl : y.v = u := by simpa using hu
      rw [Go.WideShapes.add_plain]; exact hcell) (fun u hu => by rw [List.mem_singleton] at hu; subst hu; rfl) (by unfold maxLen; omega) (by omega) hbase fun v' w' h1 h2 _ => h v' w' ⟨?_, ?_⟩ h2
  · rw [List.length_append, List.map_append]; exact h1
  · have hk : ∀ k, k < base → k < w.heap.size → w'.heap[k]? = w.heap[k]? := fun k hkb hks => h2.block k hks (fun e => by
      have := (World.ownsRow.lt hr.own k e.symm).1
      omega)
    intro z hz
    rcases List.mem_append.1 hz with hz | hz
    · exact ⟨(hr.bod z hz).1.keepIn fun k hin hks => hk k ((hr.bod z hz).2.1 k hin) hks, (hr.bod z hz).2⟩
    · rw [List.mem_singleton] at hz; subst hz; exact ⟨hy.keepIn fun k hin hks => hk k (hyb k hin) hks, hyb, hyl⟩

theorem all_step {b x : Bs} {k : Nat} (h : nextF (b.drop (lenF ((allB b).take k))) = some x) (hd : allB (b.drop (lenF ((allB b).take k))) = (allB b).drop k) : (allB b)[k]? = some x ∧ (allB b).take (k + 1) = (allB b).take k ++ [x] ∧
    allB (b.drop (lenF ((allB b).take (k + 1)))) = (allB b).drop (k + 1) := by
  rw [allB_some h] at hd
  have h1 : (allB b)[k]? = some x := by rw [← List.head?_drop, ← hd]; rfl
  have h2 : (allB b).take (k + 1) = (allB b).take k ++ [x] := by rw [List.take_add_one, h1]; rfl
  refine ⟨h1, h2, ?_⟩
  have h3 : (allB b).drop (k + 1) = ((allB b).drop k).drop 1 := (List.drop_drop ..).symm
  have h4 : b.drop (lenF ((allB b).take k) + (8 + x.length)) = (b.drop (lenF ((allB b).take k))).drop (8 + x.length) := (List.drop_drop ..).symm
  rw [h2, lenF_snoc, h4, h3, ← hd]; rfl
theorem all_end {b : Bs} {k : Nat} (hk : k ≤ (allB b).length) (h : nextF (b.drop (lenF ((allB b).take k))) = none) (hd : allB (b.drop (lenF ((allB b).take k))) = (allB b).drop k) : (allB b).length = k := by
  rw [allB_none h] at hd
  exact drop_nil hk hd.symm

/-- What the document's own All answers. -/
def RefAllPost (b : Bs) (w : World) (e : Ending) (w' : World) : Prop := ∃ v rows, e = .returned (.tuple #[v, .int .i64 (lenF (allB b) : Nat)]) ∧ RowsP w.heap.size w' v rows ∧ rows.map BX.b = allB b ∧ Below w.heap.size w w'

end Go.Proofs.Ytojkifcclgecoaa
