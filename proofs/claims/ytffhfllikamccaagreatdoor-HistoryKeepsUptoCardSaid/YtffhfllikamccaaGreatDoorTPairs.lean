/-
  The contracts of tree.heads, tree.pairs: two lists by rising paths, told side by side.
-/
import Derived.Test.YtffhfllikamccaaGreatDoorTFuncs
import Derived.Test.YtffhfllikamccaaGreatDoorTLaws
import Derived.Test.YtffhfllikamccaaGreatDoorShelf
import Derived.Test.YtffhfllikamccaaGreatDoorSeq
import Derived.Deep.QuietTactic
import Derived.BigQuiet
import Derived.RangeFuncBound
import Derived.Shelf.Abstract
import Derived.Shelf.RegionOpen
import Derived.OwnWalkIn
import Derived.TacticsInMore
import Derived.LoopNIn
import Derived.LoopIn
import Derived.IntWalk
namespace Go.Proofs.YtffhfllikamccaaGreatDoor
open Go Go.RowKit Go.Shelf Go.Proofs
attribute [local go_sem] Oper.semAt_some

theorem ret_intT {a b : Int} (h : a = b) : Ending.returned (.int .i64 a) = .returned (.int .i64 b) := by rw [h]
/-- How the heads of two lists stand to one another. -/
def headsV : List FX → List FX → Int
  | _, [] => -1
  | [], _ :: _ => 1
  | x :: _, y :: _ => Lib.compareBytes x.p.data.toList y.p.data.toList
/-- The slice .slice A n c holds l's paths from its head on. -/
def HeadAt (w : World) (A : Option Addr) (l : List FX) : Prop := ∀ x r, l = x :: r → ∃ g o, A = some ⟨g, o, none⟩ ∧ w.cell? ⟨g, o, none⟩ = some (.string x.p)

theorem below_drewN0 {B : Nat} {a w : World} (h : Below B a w) (n : Nat) : Below B a (w.drewN n) := ⟨h.os, h.tape, h.output, h.size, h.block⟩

set_option maxHeartbeats 1000000 in
theorem heads_any (a b : List FX) (A B : Option Addr) (n m c d : Nat) (w : World) (hn : n = a.length) (hm : m = b.length) (hc : n ≤ 100000) (hd : m ≤ 100000) (ha : HeadAt w A a) (hb : HeadAt w B b) :
    Calls Tryz.prog 71 #[.slice A n c, .slice B m d] w fun e w' => e = .returned (.int .i64 (headsV a b)) ∧ Below w.heap.size w w' := by
  subst hn hm
  cases b with
  | nil =>
    have g1 : ((([] : List FX).length : Int) == 0) = true := rfl
    have hr : headsV a [] = -1 := by cases a <;> rfl
    have HR := Lib.hid hr; clear hr
    go_enter Tryz.func71, Tryz.ntmps71
    go_wp2_with fail
    go_ret
    exact ⟨ret_intT HR.out.symm, Below.refl _ _⟩
  | cons y b =>
    have g1 : (((b.length + 1 : Nat) : Int) == 0) = false := by rw [beq_eq_false_iff_ne]; omega
    cases a with
    | nil =>
      go_enter Tryz.func71, Tryz.ntmps71
      go_wp2_with fail
      go_ret
      exact ⟨rfl, Below.refl _ _⟩
    | cons x a =>
      obtain ⟨g, o, rfl, c1⟩ := ha x a rfl
      obtain ⟨g', o', rfl, c2⟩ := hb y b rfl
      clear ha hb
      have hr : headsV (x :: a) (y :: b) = Lib.compareBytes x.p.data.toList y.p.data.toList := rfl
      have HR := Lib.hid hr; clear hr
      have p1 : (0 : Int) < ((a.length + 1 : Nat) : Int) := by omega
      have p2 : (0 : Int) < ((b.length + 1 : Nat) : Int) := by omega
      go_enter Tryz.func71, Tryz.ntmps71
      go_wp2_with fail
      go_quiet ((go_at_call 40; exact Calls.quiet_of_same (Tryz.strings_Compare _ _ _)))
      go_wp2_with fail
      go_ret
      exact ⟨ret_intT HR.out.symm, below_drewN0 (Below.refl _ _) _⟩

def ptrV (A : Option Addr) : Option Nat → Value
  | none => .pointer none
  | some i => .pointer (A.map fun a => ⟨a.block, a.off + i * 2, none⟩)
def encP (A B : Option Addr) (p : Option Nat × Option Nat) : Array Value := #[ptrV A p.1, ptrV B p.2]
def InA (A : Option Addr) (k : Nat) : Prop := ∃ a, A = some a ∧ k = a.block
def KeepTwo (A B : Option Addr) (a b : List FX) (k : Nat) : Prop := (0 < a.length ∧ InA A k) ∨ (0 < b.length ∧ InA B k)
def RowP (w : World) (A : Option Addr) (l : List FX) : Prop := 0 < l.length → ∃ g o, A = some ⟨g, o, none⟩ ∧ RowF w g o l
theorem RowP.keeps {w w' : World} {A : Option Addr} {l : List FX} {K : Nat → Prop} (h : RowP w A l) (hk : KeepsB K w w') (hK : 0 < l.length → ∀ k, InA A k → K k) : RowP w' A l := fun hn => by
  obtain ⟨g, o, e, hr⟩ := h hn
  exact ⟨g, o, e, hr.keep fun hg => hk.same g (hK hn g ⟨_, e, rfl⟩) hg⟩
theorem RowP.below {w w' : World} {A : Option Addr} {l : List FX} (h : RowP w A l) (hb : Below w.heap.size w w') : RowP w' A l := fun hn => by
  obtain ⟨g, o, e, hr⟩ := h hn
  exact ⟨g, o, e, hr.below hb⟩
/-- What is left of a list in a walk: its slice value. -/
structure LeftAt (A : Option Addr) (l : List FX) (i : Nat) (Ai : Option Addr) (n c : Nat) : Prop where
  len : i + n = l.length
  cap : n ≤ c
  addr : 0 < n → Ai = A.map fun a => ⟨a.block, a.off + i * 2, none⟩
theorem LeftAt.head {w : World} {A Ai : Option Addr} {l : List FX} {i n c : Nat} (h : LeftAt A l i Ai n c) (hr : RowP w A l) : HeadAt w Ai (l.drop i) := fun x r e => by
  obtain ⟨hx, _⟩ := drop_cons e
  have hl := (List.getElem?_eq_some_iff.1 hx).1
  have h1 := h.len
  obtain ⟨g, o, rfl, hrow⟩ := hr (by omega)
  exact ⟨g, o + i * 2, h.addr (by omega), (hrow i x hx).1⟩
theorem LeftAt.next {A : Option Addr} {l : List FX} {i n c c' : Nat} {Ai Ai' : Option Addr} (h : LeftAt A l i Ai n c) (hn : 1 ≤ n) (hc : n - 1 ≤ c') (hA : 0 < n - 1 → Ai' = A.map fun a => ⟨a.block, a.off + (i + 1) * 2, none⟩) : LeftAt A l (i + 1) Ai' (n - 1) c' :=
  ⟨by have := h.len; omega, hc, hA⟩
theorem addr_next (g o i : Nat) : (some ⟨g, o + i * 2 + 2, none⟩ : Option Addr) = (some ⟨g, o, none⟩ : Option Addr).map fun a => ⟨a.block, a.off + (i + 1) * 2, none⟩ := by simp only [Option.map_some]; congr 2; omega
theorem pairs_step (a b : List FX) (i j : Nat) (h : i < a.length ∨ j < b.length) :
    (i < a.length ∧ j < b.length ∧ headsV (a.drop i) (b.drop j) = 0 ∧ pairsN ((flsX a).drop i) ((flsX b).drop j) i j = (some i, some j) :: pairsN ((flsX a).drop (i + 1)) ((flsX b).drop (j + 1)) (i + 1) (j + 1)) ∨
    (i < a.length ∧ headsV (a.drop i) (b.drop j) = -1 ∧ pairsN ((flsX a).drop i) ((flsX b).drop j) i j = (some i, none) :: pairsN ((flsX a).drop (i + 1)) ((flsX b).drop j) (i + 1) j) ∨
    (j < b.length ∧ headsV (a.drop i) (b.drop j) = 1 ∧ pairsN ((flsX a).drop i) ((flsX b).drop j) i j = (none, some j) :: pairsN ((flsX a).drop i) ((flsX b).drop (j + 1)) i (j + 1)) := by
  by_cases ha : i < a.length
  · have ea : a.drop i = a[i] :: a.drop (i + 1) := List.drop_eq_getElem_cons ha
    have fa : (flsX a).drop i = a[i].fl :: (flsX a).drop (i + 1) := by unfold flsX; rw [← List.map_drop, ea, List.map_cons, List.map_drop]
    by_cases hb : j < b.length
    · have eb : b.drop j = b[j] :: b.drop (j + 1) := List.drop_eq_getElem_cons hb
      have fb : (flsX b).drop j = b[j].fl :: (flsX b).drop (j + 1) := by unfold flsX; rw [← List.map_drop, eb, List.map_cons, List.map_drop]
      rw [fa, fb, ea, eb, pairsN]
      have hv : headsV (a[i] :: a.drop (i + 1)) (b[j] :: b.drop (j + 1)) = Lib.compareBytes a[i].fl.1 b[j].fl.1 := rfl
      rw [hv]
      rcases cmpB_cases a[i].fl.1 b[j].fl.1 with ⟨h1, h2⟩ | ⟨h1, h2⟩ | ⟨h1, h2⟩
      · refine .inr (.inl ⟨ha, h1, ?_⟩)
        rw [if_neg (by simpa using ltB_ne _ _ h2), if_pos h2]
      · refine .inl ⟨ha, hb, h1, ?_⟩
        rw [if_pos (by simpa using h2)]
      · refine .inr (.inr ⟨hb, h1, ?_⟩)
        rw [if_neg (by simpa using (ltB_ne _ _ h2).symm), if_neg (by rw [ltB_asymm _ _ h2]; simp)]
    · have eb : b.drop j = [] := List.drop_eq_nil_of_le (by omega)
      have fb : (flsX b).drop j = [] := List.drop_eq_nil_of_le (by rw [flsX_length]; omega)
      rw [fa, fb, ea, eb, pairsN]
      exact .inr (.inl ⟨ha, rfl, rfl⟩)
  · have ea : a.drop i = [] := List.drop_eq_nil_of_le (by omega)
    have fa : (flsX a).drop i = [] := List.drop_eq_nil_of_le (by rw [flsX_length]; omega)
    have hb : j < b.length := by omega
    have eb : b.drop j = b[j] :: b.drop (j + 1) := List.drop_eq_getElem_cons hb
    have fb : (flsX b).drop j = b[j].fl :: (flsX b).drop (j + 1) := by unfold flsX; rw [← List.map_drop, eb, List.map_cons, List.map_drop]
    rw [fa, fb, ea, eb, pairsN]
    exact .inr (.inr ⟨hb, rfl, rfl⟩)
def sliceLen : Value → Nat
  | .slice _ n _ => n
  | _ => 0
def pairsX (a b : List FX) : List (Option Nat × Option Nat) := pairsN (flsX a) (flsX b) 0 0
def NoBlock (_ : Nat) : Prop := False
theorem grownB {w w' : World} (h : Below w.heap.size w w') : w.grownBy w' none := ⟨h.os, h.tape, h.output, h.size, fun i hi _ => h.block i hi⟩
theorem AbidesTo.below {β : Type} {T : Nat → Prop} {B : Nat} {J : β → World → Prop} (h : AbidesTo T B J) {s : β} {w w' : World} (hj : J s w) (hb : Below w.heap.size w w') : J s w' := h s w w' none hj (grownB hb) (fun _ e => by cases e)
theorem below_drew0 (w : World) : Below w.heap.size w w.drew := (Below.refl _ w).drew

set_option maxRecDepth 100000 in
set_option maxHeartbeats 8000000 in
theorem pairs1_in (n l ba bb : Nat) (A B : Option Addr) (c d : Nat) (a b : List FX) (J Jx : Nat → World → Prop) (W : World) (hla : a.length ≤ 100000) (hlb : b.length ≤ 100000) (hca : a.length ≤ c) (hcb : b.length ≤ d) (hcm : c ≤ maxLen) (hdm : d ≤ maxLen)
    (hJ : AbidesTo NoBlock W.heap.size J) (_hJx : AbidesTo NoBlock W.heap.size Jx)
    (hY : ∀ k x W1, J k W1 → (pairsX a b)[k]? = some x → YieldAt Fence.wide (n - 1) Tryz.prog l (encP A B x) W1 fun e W' =>
      (e = .returned (.bool true) ∧ J (k + 1) W' ∧ KeepsB (KeepTwo A B a b) W1 W') ∨ (e = .returned (.bool false) ∧ Jx (k + 1) W'))
    (b1 : Boxed W ba 23 (.slice A a.length c)) (b2 : Boxed W bb 23 (.slice B b.length d)) (ra : RowP W A a) (rb : RowP W B b) (h0 : J 0 W) :
    CallsIn Fence.wide n Tryz.prog 70 #[.func (.yield l) #[] #[], .pointer (some ⟨ba, 0, none⟩), .pointer (some ⟨bb, 0, none⟩)] W fun e W' =>
      (∃ v, e = .returned v) ∧ (J (pairsX a b).length W' ∨ ∃ k, k ≤ (pairsX a b).length ∧ Jx k W') := by
  unfold maxLen at hcm hdm
  refine callsIn_of_wp Tryz.func70 rfl trivial ?_ rfl
  simp only [Tryz.ntmps70, List.size_toArray, List.length_cons, List.length_nil, Nat.reduceAdd, Nat.reduceSub, Array.replicate_succ, Array.replicate_zero, List.push_toArray, List.append_toArray, List.nil_append, List.cons_append]
  have c1 := b1.cell
  have c2 := b2.cell
  gi_wp2
  gi_region
  all_goals (try gi_wp2)
  clear c1 c2
  gi_loopw [4, 5] (fun s4 s5 wr => ∃ (i j n4 n5 c4 c5 k : Nat) (Ai Bj : Option Addr), s4 = .slice Ai n4 c4 ∧ s5 = .slice Bj n5 c5 ∧ Hid (LeftAt A a i Ai n4 c4) ∧ Hid (LeftAt B b j Bj n5 c5) ∧ n4 ≤ 100000 ∧ n5 ≤ 100000 ∧ c4 ≤ 9223372036854775807 ∧ c5 ≤ 9223372036854775807 ∧
      Hid (RowP wr A a) ∧ Hid (RowP wr B b) ∧ W.heap.size ≤ wr.heap.size ∧ Hid (k ≤ (pairsX a b).length ∧ (pairsX a b).drop k = pairsN ((flsX a).drop i) ((flsX b).drop j) i j) ∧ J k wr)
    (fun s4 s5 _ => sliceLen s4 + sliceLen s5)
  case atStart =>
    exact ⟨0, 0, a.length, b.length, c, d, 0, A, B, rfl, rfl, ⟨by omega, hca, fun hn => by obtain ⟨g, o, rfl, _⟩ := ra hn; simp⟩, ⟨by omega, hcb, fun hn => by obtain ⟨g, o, rfl, _⟩ := rb hn; simp⟩, hla, hlb, by omega, by omega,
      ra.below (below_drew0 W), rb.below (below_drew0 W), Nat.le_refl _, ⟨Nat.zero_le _, rfl⟩, hJ.below h0 (below_drew0 W)⟩
  case round =>
    clear b1 b2 ra rb h0
    obtain ⟨i, j, n4, n5, c4, c5, k, Ai, Bj, rfl, rfl, HL4, HL5, hn4, hn5, hc4, hc5, HRA, HRB, hsz, HD, hj⟩ := hrel
    by_cases hmore : 0 < n4 ∨ 0 < n5
    · have e4 := HL4.out.len
      have e5 := HL5.out.len
      have H := heads_any (a.drop i) (b.drop j) Ai Bj n4 n5 c4 c5 wr (by rw [List.length_drop]; omega) (by rw [List.length_drop]; omega) hn4 hn5 (HL4.out.head HRA.out) (HL5.out.head HRB.out)
      have HH := Lib.hid H; clear H
      rcases pairs_step a b i j (by omega) with ⟨hi, hjb, hv, hp⟩ | ⟨hi, hv, hp⟩ | ⟨hjb, hv, hp⟩
      · have hx : (pairsX a b)[k]? = some (some i, some j) := by rw [← List.head?_drop, HD.out.2, hp]; rfl
        have hd2 : (pairsX a b).drop (k + 1) = pairsN ((flsX a).drop (i + 1)) ((flsX b).drop (j + 1)) (i + 1) (j + 1) := by rw [← List.drop_drop, HD.out.2, hp]; rfl
        have hk1 : k + 1 ≤ (pairsX a b).length := (List.getElem?_eq_some_iff.1 hx).1
        have HX := Lib.hid hx; clear hx
        have HV := Lib.hid hv; clear hv
        have HP := Lib.hid hp; clear hp
        have HD2 := Lib.hid hd2; clear hd2
        obtain ⟨g, o, rfl, hrow⟩ := HRA.out (by omega)
        obtain rfl : Ai = some ⟨g, o + i * 2, none⟩ := HL4.out.addr (by omega)
        clear hrow
        have q1 : (0 : Int) < (n4 : Int) := by omega
        have q2 : (1 : Int) ≤ (n4 : Int) := by omega
        have cap4 := HL4.out.cap
        obtain ⟨g', o', rfl, hrow'⟩ := HRB.out (by omega)
        obtain rfl : Bj = some ⟨g', o' + j * 2, none⟩ := HL5.out.addr (by omega)
        clear hrow'
        have q3 : (0 : Int) < (n5 : Int) := by omega
        have q4 : (1 : Int) ≤ (n5 : Int) := by omega
        have cap5 := HL5.out.cap
        have HHJ := Lib.hid hj; clear hj
        have HHY := Lib.hid hY; clear hY
        have HHJJ := Lib.hid hJ; clear hJ
        clear e4 e5
        gi_wp2
        refine wide_call HH.out ?_
        rintro e w2 ⟨rfl, hb2⟩
        rw [HV.out]
        have HB2 := Lib.hid hb2; clear hb2
        gi_wp2
        gi_region
        all_goals (try gi_wp2)
        all_goals gi_region
        all_goals (try gi_wp2)
        all_goals
          have hj3 := HHJJ.out.below (HHJJ.out.below (HHJJ.out.below HHJ.out HB2.out) (below_drew0 w2)) (below_drew0 w2.drew)
          obtain ⟨fn, tmps, assign, body, hy, hR⟩ := HHY.out k _ _ hj3 HX.out
          simp only [encP, ptrV, Option.map_some] at hy
          rw [hy, Oper.uponIn_round]
          clear hy
          refine wide_round hR ?_
          rintro e W3 (⟨rfl, hJ3, hk3⟩ | ⟨rfl, hJx3⟩)
          · have hra3 := (((HRA.out.below HB2.out).below (below_drew0 w2)).below (below_drew0 w2.drew)).keeps hk3 (fun hn _ h => .inl ⟨hn, h⟩)
            have hrb3 := (((HRB.out.below HB2.out).below (below_drew0 w2)).below (below_drew0 w2.drew)).keeps hk3 (fun hn _ h => .inr ⟨hn, h⟩)
            have hsz3 : W.heap.size ≤ W3.heap.size := Nat.le_trans hsz (Nat.le_trans HB2.out.size hk3.size)
            have HA3 := Lib.hid hra3; clear hra3
            have HB3 := Lib.hid hrb3; clear hrb3
            clear hk3
            gi_wp2
            first
            | exact ⟨⟨i + 1, j + 1, _, _, _, _, k + 1, _, _, rfl, rfl, HL4.out.next (by omega) (by omega) (fun h => by omega), HL5.out.next (by omega) (by omega) (fun h => by omega), by omega, by omega, by omega, by omega, HA3.out, HB3.out, hsz3, ⟨hk1, HD2.out⟩, hJ3⟩, by simp only [sliceLen]; omega⟩
            | exact ⟨⟨i + 1, j + 1, _, _, _, _, k + 1, _, _, rfl, rfl, HL4.out.next (by omega) (by omega) (fun h => by omega), HL5.out.next (by omega) (by omega) (fun _ => addr_next _ _ _), by omega, by omega, by omega, by omega, HA3.out, HB3.out, hsz3, ⟨hk1, HD2.out⟩, hJ3⟩, by simp only [sliceLen]; omega⟩
            | exact ⟨⟨i + 1, j + 1, _, _, _, _, k + 1, _, _, rfl, rfl, HL4.out.next (by omega) (by omega) (fun _ => addr_next _ _ _), HL5.out.next (by omega) (by omega) (fun h => by omega), by omega, by omega, by omega, by omega, HA3.out, HB3.out, hsz3, ⟨hk1, HD2.out⟩, hJ3⟩, by simp only [sliceLen]; omega⟩
            | exact ⟨⟨i + 1, j + 1, _, _, _, _, k + 1, _, _, rfl, rfl, HL4.out.next (by omega) (by omega) (fun _ => addr_next _ _ _), HL5.out.next (by omega) (by omega) (fun _ => addr_next _ _ _), by omega, by omega, by omega, by omega, HA3.out, HB3.out, hsz3, ⟨hk1, HD2.out⟩, hJ3⟩, by simp only [sliceLen]; omega⟩
          · gi_wp2
            refine bodyPost_ret (results_none rfl _ _ _) rfl ?_
            exact ⟨⟨_, rfl⟩, .inr ⟨k + 1, hk1, hJx3⟩⟩
      · have hx : (pairsX a b)[k]? = some (some i, none) := by rw [← List.head?_drop, HD.out.2, hp]; rfl
        have hd2 : (pairsX a b).drop (k + 1) = pairsN ((flsX a).drop (i + 1)) ((flsX b).drop j) (i + 1) j := by rw [← List.drop_drop, HD.out.2, hp]; rfl
        have hk1 : k + 1 ≤ (pairsX a b).length := (List.getElem?_eq_some_iff.1 hx).1
        have HX := Lib.hid hx; clear hx
        have HV := Lib.hid hv; clear hv
        have HP := Lib.hid hp; clear hp
        have HD2 := Lib.hid hd2; clear hd2
        obtain ⟨g, o, rfl, hrow⟩ := HRA.out (by omega)
        obtain rfl : Ai = some ⟨g, o + i * 2, none⟩ := HL4.out.addr (by omega)
        clear hrow
        have q1 : (0 : Int) < (n4 : Int) := by omega
        have q2 : (1 : Int) ≤ (n4 : Int) := by omega
        have cap4 := HL4.out.cap
        have HHJ := Lib.hid hj; clear hj
        have HHY := Lib.hid hY; clear hY
        have HHJJ := Lib.hid hJ; clear hJ
        clear e4 e5
        gi_wp2
        refine wide_call HH.out ?_
        rintro e w2 ⟨rfl, hb2⟩
        rw [HV.out]
        have HB2 := Lib.hid hb2; clear hb2
        gi_wp2
        gi_region
        all_goals (try gi_wp2)
        all_goals
          have hj3 := HHJJ.out.below (HHJJ.out.below HHJ.out HB2.out) (below_drew0 w2)
          obtain ⟨fn, tmps, assign, body, hy, hR⟩ := HHY.out k _ _ hj3 HX.out
          simp only [encP, ptrV, Option.map_some] at hy
          rw [hy, Oper.uponIn_round]
          clear hy
          refine wide_round hR ?_
          rintro e W3 (⟨rfl, hJ3, hk3⟩ | ⟨rfl, hJx3⟩)
          · have hra3 := ((HRA.out.below HB2.out).below (below_drew0 w2)).keeps hk3 (fun hn _ h => .inl ⟨hn, h⟩)
            have hrb3 := ((HRB.out.below HB2.out).below (below_drew0 w2)).keeps hk3 (fun hn _ h => .inr ⟨hn, h⟩)
            have hsz3 : W.heap.size ≤ W3.heap.size := Nat.le_trans hsz (Nat.le_trans HB2.out.size hk3.size)
            have HA3 := Lib.hid hra3; clear hra3
            have HB3 := Lib.hid hrb3; clear hrb3
            clear hk3
            gi_wp2
            first
            | exact ⟨⟨i + 1, j, _, _, _, _, k + 1, _, _, rfl, rfl, HL4.out.next (by omega) (by omega) (fun h => by omega), HL5.out, by omega, by omega, by omega, by omega, HA3.out, HB3.out, hsz3, ⟨hk1, HD2.out⟩, hJ3⟩, by simp only [sliceLen]; omega⟩
            | exact ⟨⟨i + 1, j, _, _, _, _, k + 1, _, _, rfl, rfl, HL4.out.next (by omega) (by omega) (fun _ => addr_next _ _ _), HL5.out, by omega, by omega, by omega, by omega, HA3.out, HB3.out, hsz3, ⟨hk1, HD2.out⟩, hJ3⟩, by simp only [sliceLen]; omega⟩
          · gi_wp2
            refine bodyPost_ret (results_none rfl _ _ _) rfl ?_
            exact ⟨⟨_, rfl⟩, .inr ⟨k + 1, hk1, hJx3⟩⟩
      · have hx : (pairsX a b)[k]? = some (none, some j) := by rw [← List.head?_drop, HD.out.2, hp]; rfl
        have hd2 : (pairsX a b).drop (k + 1) = pairsN ((flsX a).drop i) ((flsX b).drop (j + 1)) i (j + 1) := by rw [← List.drop_drop, HD.out.2, hp]; rfl
        have hk1 : k + 1 ≤ (pairsX a b).length := (List.getElem?_eq_some_iff.1 hx).1
        have HX := Lib.hid hx; clear hx
        have HV := Lib.hid hv; clear hv
        have HP := Lib.hid hp; clear hp
        have HD2 := Lib.hid hd2; clear hd2
        obtain ⟨g', o', rfl, hrow'⟩ := HRB.out (by omega)
        obtain rfl : Bj = some ⟨g', o' + j * 2, none⟩ := HL5.out.addr (by omega)
        clear hrow'
        have q3 : (0 : Int) < (n5 : Int) := by omega
        have q4 : (1 : Int) ≤ (n5 : Int) := by omega
        have cap5 := HL5.out.cap
        have HHJ := Lib.hid hj; clear hj
        have HHY := Lib.hid hY; clear hY
        have HHJJ := Lib.hid hJ; clear hJ
        clear e4 e5
        rcases Nat.eq_zero_or_pos n4 with h40 | h40
        · subst h40
          gi_wp2
          refine wide_call HH.out ?_
          rintro e w2 ⟨rfl, hb2⟩
          rw [HV.out]
          have HB2 := Lib.hid hb2; clear hb2
          gi_wp2
          gi_region
          all_goals (try gi_wp2)
          all_goals
            have hj3 := HHJJ.out.below (HHJJ.out.below HHJ.out HB2.out) (below_drew0 w2)
            obtain ⟨fn, tmps, assign, body, hy, hR⟩ := HHY.out k _ _ hj3 HX.out
            simp only [encP, ptrV, Option.map_some] at hy
            rw [hy, Oper.uponIn_round]
            clear hy
            refine wide_round hR ?_
            rintro e W3 (⟨rfl, hJ3, hk3⟩ | ⟨rfl, hJx3⟩)
            · have hra3 := ((HRA.out.below HB2.out).below (below_drew0 w2)).keeps hk3 (fun hn _ h => .inl ⟨hn, h⟩)
              have hrb3 := ((HRB.out.below HB2.out).below (below_drew0 w2)).keeps hk3 (fun hn _ h => .inr ⟨hn, h⟩)
              have hsz3 : W.heap.size ≤ W3.heap.size := Nat.le_trans hsz (Nat.le_trans HB2.out.size hk3.size)
              have HA3 := Lib.hid hra3; clear hra3
              have HB3 := Lib.hid hrb3; clear hrb3
              clear hk3
              gi_wp2
              first
              | exact ⟨⟨i, j + 1, _, _, _, _, k + 1, _, _, rfl, rfl, HL4.out, HL5.out.next (by omega) (by omega) (fun h => by omega), by omega, by omega, by omega, by omega, HA3.out, HB3.out, hsz3, ⟨hk1, HD2.out⟩, hJ3⟩, by simp only [sliceLen]; omega⟩
              | exact ⟨⟨i, j + 1, _, _, _, _, k + 1, _, _, rfl, rfl, HL4.out, HL5.out.next (by omega) (by omega) (fun _ => addr_next _ _ _), by omega, by omega, by omega, by omega, HA3.out, HB3.out, hsz3, ⟨hk1, HD2.out⟩, hJ3⟩, by simp only [sliceLen]; omega⟩
            · gi_wp2
              refine bodyPost_ret (results_none rfl _ _ _) rfl ?_
              exact ⟨⟨_, rfl⟩, .inr ⟨k + 1, hk1, hJx3⟩⟩
        · have q1 : (0 : Int) < (n4 : Int) := by omega
          gi_wp2
          refine wide_call HH.out ?_
          rintro e w2 ⟨rfl, hb2⟩
          rw [HV.out]
          have HB2 := Lib.hid hb2; clear hb2
          gi_wp2
          gi_region
          all_goals (try gi_wp2)
          all_goals
            have hj3 := HHJJ.out.below (HHJJ.out.below HHJ.out HB2.out) (below_drew0 w2)
            obtain ⟨fn, tmps, assign, body, hy, hR⟩ := HHY.out k _ _ hj3 HX.out
            simp only [encP, ptrV, Option.map_some] at hy
            rw [hy, Oper.uponIn_round]
            clear hy
            refine wide_round hR ?_
            rintro e W3 (⟨rfl, hJ3, hk3⟩ | ⟨rfl, hJx3⟩)
            · have hra3 := ((HRA.out.below HB2.out).below (below_drew0 w2)).keeps hk3 (fun hn _ h => .inl ⟨hn, h⟩)
              have hrb3 := ((HRB.out.below HB2.out).below (below_drew0 w2)).keeps hk3 (fun hn _ h => .inr ⟨hn, h⟩)
              have hsz3 : W.heap.size ≤ W3.heap.size := Nat.le_trans hsz (Nat.le_trans HB2.out.size hk3.size)
              have HA3 := Lib.hid hra3; clear hra3
              have HB3 := Lib.hid hrb3; clear hrb3
              clear hk3
              gi_wp2
              first
              | exact ⟨⟨i, j + 1, _, _, _, _, k + 1, _, _, rfl, rfl, HL4.out, HL5.out.next (by omega) (by omega) (fun h => by omega), by omega, by omega, by omega, by omega, HA3.out, HB3.out, hsz3, ⟨hk1, HD2.out⟩, hJ3⟩, by simp only [sliceLen]; omega⟩
              | exact ⟨⟨i, j + 1, _, _, _, _, k + 1, _, _, rfl, rfl, HL4.out, HL5.out.next (by omega) (by omega) (fun _ => addr_next _ _ _), by omega, by omega, by omega, by omega, HA3.out, HB3.out, hsz3, ⟨hk1, HD2.out⟩, hJ3⟩, by simp only [sliceLen]; omega⟩
            · gi_wp2
              refine bodyPost_ret (results_none rfl _ _ _) rfl ?_
              exact ⟨⟨_, rfl⟩, .inr ⟨k + 1, hk1, hJx3⟩⟩
    · obtain rfl : n4 = 0 := by omega
      obtain rfl : n5 = 0 := by omega
      have e4 := HL4.out.len
      have e5 := HL5.out.len
      have hend : (pairsX a b).drop k = [] := by
        rw [HD.out.2, List.drop_eq_nil_of_le (by rw [flsX_length]; omega), List.drop_eq_nil_of_le (by rw [flsX_length]; omega)]
        simp [pairsN]
      have hkl : (pairsX a b).length ≤ k := by simpa using hend
      have HKL := Lib.hid (Nat.le_antisymm HD.out.1 hkl); clear hkl hend e4 e5
      have HHJ := Lib.hid hj; clear hj
      gi_wp2
      go_end0
      exact ⟨⟨_, rfl⟩, .inl (HKL.out ▸ HHJ.out)⟩

/-- The iterator's contract. -/
theorem pairs_list (n ba bb : Nat) (A B : Option Addr) (c d : Nat) (a b : List FX) (w : World) (hla : a.length ≤ 100000) (hlb : b.length ≤ 100000) (hca : a.length ≤ c) (hcb : b.length ≤ d) (hcm : c ≤ maxLen) (hdm : d ≤ maxLen)
    (b1 : Boxed w ba 23 (.slice A a.length c)) (b2 : Boxed w bb 23 (.slice B b.length d)) (ra : RowP w A a) (rb : RowP w B b) :
    SeqList Fence.wide n Tryz.prog 70 #[.pointer (some ⟨ba, 0, none⟩), .pointer (some ⟨bb, 0, none⟩)] (encP A B) (KeepsB (KeepTwo A B a b)) NoBlock (pairsX a b) w :=
  fun l J Jx W hW hJ hJx hY h0 => pairs1_in n l ba bb A B c d a b J Jx W hla hlb hca hcb hcm hdm hJ hJx hY ((hW.block ba b1.lt).trans b1) ((hW.block bb b2.lt).trans b2) (ra.below hW) (rb.below hW) h0

set_option maxHeartbeats 1000000 in
theorem pairs_any (A B : Option Addr) (n m c d : Nat) (w : World) :
    Calls Tryz.prog 50 #[.slice A n c, .slice B m d] w fun e w' =>
      e = .returned (.func (.func 70) #[] #[.pointer (some ⟨w.heap.size, 0, none⟩), .pointer (some ⟨w.heap.size + 1, 0, none⟩)]) ∧
      w' = (w.alloc (.cells #[.slice A n c] 23)).alloc (.cells #[.slice B m d] 23) := by
  go_enter Tryz.func50, Tryz.ntmps50
  go_wp2
  go_ret
  exact ⟨rfl, rfl⟩
end Go.Proofs.YtffhfllikamccaaGreatDoor
