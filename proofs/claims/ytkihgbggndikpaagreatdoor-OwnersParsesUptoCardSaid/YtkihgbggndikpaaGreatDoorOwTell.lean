/-
  What a line tells, put down: the contracts of owners.add and of what the kinds of lines do.
-/
import Derived.Test.YtkihgbggndikpaaGreatDoorOwIs
import Derived.Test.YtkihgbggndikpaaGreatDoorOwMem
import Derived.Deep.RegionHeld3
import Derived.BigQuiet
namespace Go.Proofs.YtkihgbggndikpaaGreatDoor
open Go Go.RowKit Go.Shelf Go.Proofs
attribute [local go_sem] Oper.semAt_some

theorem line_info : (Tryz.prog.info? 62).map (fun i => (i.zero, i.size, i.bytes)) = some (some (.agg #[.string ⟨#[]⟩, .slice none 0 0]), 2, 40) := by kernel_rfl
def lcells (l : List LX) : List Value := l.flatMap LX.cs
theorem lcells_cons (x : LX) (l : List LX) : lcells (x :: l) = .string x.g :: .slice x.A x.ns.length x.c :: lcells l := rfl
theorem lcells_append (a b : List LX) : lcells (a ++ b) = lcells a ++ lcells b := by unfold lcells; rw [List.flatMap_append]
theorem lcells_length (l : List LX) : (lcells l).length = l.length * 2 := by
  induction l with
  | nil => rfl
  | cons x l ih => rw [lcells_cons]; simp only [List.length_cons, ih]; omega
theorem lcells_at (l : List LX) (i : Nat) (x : LX) (h : l[i]? = some x) : (lcells l)[i * 2]? = some (.string x.g) ∧ (lcells l)[i * 2 + 1]? = some (.slice x.A x.ns.length x.c) := by
  induction l generalizing i with
  | nil => simp at h
  | cons y l ih => cases i with
    | zero => simp at h; subst h; exact ⟨rfl, rfl⟩
    | succ i =>
      obtain ⟨h1, h2⟩ := ih i (by simpa using h)
      rw [lcells_cons, show (i + 1) * 2 = i * 2 + 1 + 1 from by omega]
      exact ⟨by simpa using h1, by simpa using h2⟩

/-- Only the block b, and blocks of lines, turn. -/
structure TurnO (base b : Nat) (W W' : World) : Prop where
  os : W'.os = W.os
  tape : W'.tape = W.tape
  output : W'.output = W.output
  size : W.heap.size ≤ W'.heap.size
  same : ∀ j o, W.heap[j]? = some o → j ≠ b → (∀ cur fr, o ≠ .cells cur 62 fr) → W'.heap[j]? = some o
  low : ∀ j, j < base → j < W.heap.size → j ≠ b → W'.heap[j]? = W.heap[j]?
theorem TurnO.trans {base b : Nat} {A B C : World} (h : TurnO base b A B) (k : TurnO base b B C) : TurnO base b A C :=
  ⟨k.os.trans h.os, k.tape.trans h.tape, k.output.trans h.output, Nat.le_trans h.size k.size, fun j o hj hn ht => k.same j o (h.same j o hj hn ht) hn ht, fun j hj hs hn => (k.low j hj (Nat.lt_of_lt_of_le hs h.size) hn).trans (h.low j hj hs hn)⟩
theorem TurnO.of_below {base b : Nat} {W W' : World} (h : Below W.heap.size W W') : TurnO base b W W' :=
  ⟨h.os, h.tape, h.output, h.size, fun j _o hj _ _ => (h.block j (Array.getElem?_eq_some_iff.1 hj).1).trans hj, fun j _ hs _ => h.block j hs⟩
theorem TurnO.below {base b n : Nat} {W W' : World} (h : TurnO base b W W') (hn : n ≤ base) (hb : n ≤ b) (hs : n ≤ W.heap.size) : Below n W W' := ⟨h.os, h.tape, h.output, h.size, fun j hj => h.low j (by omega) (by omega) (by omega)⟩
theorem TurnO.others {base b : Nat} {W W' : World} (h : TurnO base b W W') (hb : ∀ o, W.heap[b]? = some o → o.isCells = true) : KeepsOthers W W' := ⟨h.size, fun j o hj hc => h.same j o hj (fun e => by
  subst e
  rw [hb o hj] at hc; cases hc) (fun cur fr e => by subst e; cases hc)⟩
theorem TurnO.box {base b j : Nat} {W W' : World} {t : TypeId} {v : Value} (h : TurnO base b W W') (hb : Boxed W j t v) (hn : j ≠ b) (ht : t ≠ 62) : Boxed W' j t v := h.same j _ hb hn (fun cur fr e => by simp at e; exact ht e.2.1)

/-- What is gathered, in memory: the block b has it; its lines stand in a row of the call's own. -/
structure OwO (base b : Nat) (L : List LX) (np : Bool) (W : World) : Prop where
  box : ∃ v, W.heap[b]? = some (.cells #[.bool np, v] 24 (0, 0)) ∧ W.ownsRow base 62 2 v L.length (lcells L)
  own : ∀ x ∈ L, StrsT base W x.A x.ns ∧ x.ns.length ≤ x.c ∧ x.c ≤ maxLen
theorem OwO.below {base b : Nat} {L : List LX} {np : Bool} {W W' : World} (h : OwO base b L np W) (hb : Below W.heap.size W W') : OwO base b L np W' := by
  obtain ⟨v, h1, h2⟩ := h.box
  refine ⟨⟨v, (hb.block b (Array.getElem?_eq_some_iff.1 h1).1).trans h1, World.ownsRow.kept h2 (row := none) ⟨hb.os, hb.tape, hb.output, hb.size, fun i hi _ => hb.block i hi⟩ (by cases v.ownBlock <;> simp)⟩, fun x hx => ⟨(h.own x hx).1.below hb, (h.own x hx).2⟩⟩
/-- Behind a turn that leaves it alone. -/
theorem OwO.kept {base b : Nat} {L : List LX} {np : Bool} {X Y : World} {row : Option Nat} (h : OwO base b L np X) (hg : X.grownBy Y row) (hr : ∀ r, row = some r → r ≠ b ∧ (r < base ∨ ∃ o : Obj, X.heap[r]? = some o ∧ o.isCells = false)) : OwO base b L np Y := by
  obtain ⟨v, h1, h2⟩ := h.box
  refine ⟨⟨v, (hg.block b (Array.getElem?_eq_some_iff.1 h1).1 (fun e => (hr b e.symm).1 rfl)).trans h1, h2.kept hg ?_⟩, fun x hx => ⟨(h.own x hx).1.keep fun g cur hbg hgg => hg.block g (Array.getElem?_eq_some_iff.1 hgg).1 (fun e => ?_), (h.own x hx).2⟩⟩
  · rcases h2.2 with ⟨rfl, _⟩ | ⟨g, cap, cur, rfl, hbg, hgb, _⟩
    · exact .inl rfl
    · refine .inr fun e => ?_
      rcases (hr g (by simpa [Value.ownBlock] using e.symm)).2 with h | ⟨o, ho, hc⟩
      · omega
      · rw [hgb] at ho; cases ho; cases hc
  · rcases (hr g e.symm).2 with h | ⟨o, ho, hc⟩
    · omega
    · rw [hgg] at ho; cases ho; cases hc
theorem OwO.slice {base b : Nat} {L : List LX} {np : Bool} {W : World} (h : OwO base b L np W) : ∃ A c, W.heap[b]? = some (.cells #[.bool np, .slice A L.length c] 24 (0, 0)) ∧ LinesAt W A c L := by
  obtain ⟨v, h1, h2⟩ := h.box
  rcases h2.2 with ⟨rfl, h0⟩ | ⟨g, cap, cur, rfl, hbg, hgb, hc, hcm, _, _⟩
  · obtain rfl : L = [] := List.eq_nil_of_length_eq_zero h0
    exact ⟨none, 0, h1, LinesAt.nil _ _ _ (Nat.zero_le _)⟩
  · refine ⟨_, _, h1, hc, hcm, fun _ => ⟨g, 0, rfl, fun i x hx => ?_⟩, fun x hx => ⟨(h.own x hx).1.at_, (h.own x hx).2⟩⟩
    obtain ⟨a1, a2⟩ := lcells_at L i x hx
    have b1 := World.ownsRow.cells h2 (g := g) rfl _ _ a1
    have b2 := World.ownsRow.cells h2 (g := g) rfl _ _ a2
    rw [Go.WideShapes.add_plain, Nat.zero_add] at b1 b2
    rw [Nat.zero_add]
    exact ⟨b1, b2⟩

theorem grownBy_cell (W : World) (b o : Nat) (v : Value) : W.grownBy (W.setCell ⟨b, o, none⟩ v) (some b) :=
  ⟨rfl, rfl, rfl, by simp [World.setCell], fun j _ hne => heap_setCell_other W ⟨b, o, none⟩ j v (fun e => hne (by rw [e]))⟩
/-- A store into the block that has it. -/
theorem OwO.line {base b : Nat} {L : List LX} {x : LX} {np : Bool} {W W3 : World} {v v' : Value} (hb : b < base) (_hbase : base ≤ W.heap.size) (h1 : W.heap[b]? = some (.cells #[.bool np, v] 24 (0, 0))) (h2 : W.ownsRow base 62 2 v L.length (lcells L))
    (hO : ∀ x ∈ L, StrsT base W x.A x.ns ∧ x.ns.length ≤ x.c ∧ x.c ≤ maxLen) (hx : StrsT base W x.A x.ns ∧ x.ns.length ≤ x.c ∧ x.c ≤ maxLen) {o : Obj} (hg : (W.alloc o).grownBy W3 v.ownBlock) (hv : W3.ownsRow base 62 2 v' (L ++ [x]).length (lcells (L ++ [x]))) :
    OwO base b (L ++ [x]) np (W3.setCell ⟨b, 1, none⟩ v') ∧ TurnO base b W (W3.setCell ⟨b, 1, none⟩ v') := by
  have hown : ∀ g, v.ownBlock = some g → base ≤ g ∧ ∃ cur, W.heap[g]? = some (.cells cur 62 (0, 0)) := fun g hg => row_ge h2 hg
  have hlt : b < W.heap.size := (Array.getElem?_eq_some_iff.1 h1).1
  have keep : ∀ (j : Nat) (o' : Obj), W.heap[j]? = some o' → (∀ cur fr, o' ≠ .cells cur 62 fr) → W3.heap[j]? = some o' := fun j o' hj ht => by
    have hjl := (Array.getElem?_eq_some_iff.1 hj).1
    refine (hg.block j (by simp; omega) (fun e => ?_)).trans ((Below.heap_alloc _ _ _ hjl).trans hj)
    obtain ⟨_, cur, hc⟩ := hown j e.symm
    rw [hc] at hj; cases hj; exact ht _ _ rfl
  have h3 : W3.heap[b]? = some (.cells #[.bool np, v] 24 (0, 0)) := keep b _ h1 (fun cur fr e => by simp at e)
  have h4 : (W3.setCell ⟨b, 1, none⟩ v').heap[b]? = some (.cells #[.bool np, v'] 24 (0, 0)) := heap_setCell_same W3 b 1 _ _ v' h3
  have keep2 : ∀ (j : Nat) (o' : Obj), W.heap[j]? = some o' → j ≠ b → (∀ cur fr, o' ≠ .cells cur 62 fr) → (W3.setCell ⟨b, 1, none⟩ v').heap[j]? = some o' := fun j o' hj hn ht =>
    (heap_setCell_other W3 ⟨b, 1, none⟩ j v' hn).trans (keep j o' hj ht)
  have strs : ∀ {A : Option Addr} {l : List Bs}, StrsT base W A l → StrsT base (W3.setCell ⟨b, 1, none⟩ v') A l := fun h => h.keep fun g cur hbg hgg => (keep2 g _ hgg (by omega) (fun cur fr e => by simp at e)).trans hgg.symm
  refine ⟨⟨⟨v', h4, hv.kept (grownBy_cell W3 b 1 v') ?_⟩, fun y hy => ?_⟩, hg.os, hg.tape, hg.output, by have := hg.size; simp [World.setCell] at this ⊢; omega, keep2, fun j hj hs hn => ?_⟩
  · rcases hv.2 with ⟨rfl, _⟩ | ⟨g, cap, cur, rfl, hbg, _⟩
    · exact .inl rfl
    · refine .inr fun e => ?_
      simp only [Value.ownBlock, Option.some.injEq] at e
      omega
  · rcases List.mem_append.1 hy with hy | hy
    · exact ⟨strs (hO y hy).1, (hO y hy).2⟩
    · simp only [List.mem_singleton] at hy; subst hy
      exact ⟨strs hx.1, hx.2⟩
  · refine (heap_setCell_other W3 ⟨b, 1, none⟩ j v' hn).trans ((hg.block j (by simp; omega) (fun e => ?_)).trans (Below.heap_alloc _ _ _ hs))
    have := (hown j e.symm).1
    omega

theorem cell_two (w : World) (x y : Value) (t : TypeId) : ∀ j u, [x, y][j]? = some u → (w.alloc (.cells #[x, y] t)).cell? ((⟨w.heap.size, 0, none⟩ : Addr).add j) = some u := by
  intro j u hj
  match j, hj with
  | 0, hj => simp at hj; subst hj; simp [Addr.add]
  | 1, hj => simp at hj; subst hj; simp [Addr.add]
  | (j + 2), hj => simp at hj
def TellPost (base b : Nat) (L : List LX) (np : Bool) (W : World) (e : Ending) (W' : World) : Prop := e = .returned (.tuple #[]) ∧ OwO base b L np W' ∧ TurnO base b W W'

theorem wpList_append_line {ops : Array Oper} {rest : List Oper} {o : Oper} {a : Act} {w : World} {Q : Exit → Act → World → Prop} (hgd : o.guard = none) (s x : Operand)
    (ho : o.op = .call { callee := .builtin .append, args := #[s, x], argTypes := #[22, 22] })
    (base : Nat) (v : Value) (l : List LX) (f : LX) (g c : Nat) (hs : a.eval s = v) (hown : w.ownsRow base 62 2 v l.length (lcells l)) (hx : a.eval x = .slice (some ⟨g, 0, none⟩) 1 c)
    (hb : ∀ j u, f.cs[j]? = some u → w.cell? ((⟨g, 0, none⟩ : Addr).add j) = some u) (hl : l.length ≤ 100000) (hbase : base ≤ w.heap.size)
    (h : ∀ v' w', w'.ownsRow base 62 2 v' (l ++ [f]).length (lcells (l ++ [f])) → w.grownBy w' v.ownBlock → wpList Tryz.prog ops Q rest (a.put o.dst v') w') : wpList Tryz.prog ops Q (o :: rest) a w := by
  obtain ⟨i0, hi, hz0, hz1, hz2⟩ := info_parts line_info
  refine wpList_append_own w hgd s x 22 ho base 62 i0 (.agg #[.string ⟨#[]⟩, .slice none 0 0]) 2 40 Tryz.underlying22 hi hz0 hz1 hz2 rfl (by decide) v l.length (lcells l) hs hown ⟨g, 0, none⟩ 1 c f.cs hx rfl hb ?_ (by unfold maxLen; omega) (by omega) hbase fun v' w' h1 h2 _ => h v' w' ?_ h2
  · intro u hu
    simp only [LX.cs, List.mem_cons, List.mem_nil_iff, or_false] at hu
    rcases hu with rfl | rfl <;> rfl
  · rw [List.length_append, lcells_append]; exact h1
theorem add_box {base b : Nat} {L : List LX} {np : Bool} {W W3 : World} {v : Value} {o : Obj} (hb : b < base) (h1 : W.heap[b]? = some (.cells #[.bool np, v] 24 (0, 0))) (h2 : W.ownsRow base 62 2 v L.length (lcells L)) (hg : (W.alloc o).grownBy W3 v.ownBlock) :
    W3.heap[b]? = some (.cells #[.bool np, v] 24 (0, 0)) := by
  have hl := (Array.getElem?_eq_some_iff.1 h1).1
  refine (hg.block b (by rw [World.size_alloc]; omega) (fun e => ?_)).trans ((Below.heap_alloc _ _ _ hl).trans h1)
  have := (row_ge h2 e.symm).1
  omega
set_option maxRecDepth 100000 in
set_option maxHeartbeats 4000000 in
theorem add_any (base b : Nat) (L : List LX) (np : Bool) (x : LX) (W : World) (h : OwO base b L np W) (hl : L.length ≤ 100000) (hb : b < base) (hbase : base ≤ W.heap.size) (hx : StrsT base W x.A x.ns) (hxc : x.ns.length ≤ x.c) (hxm : x.c ≤ maxLen) :
    Calls Tryz.prog 74 #[.pointer (some ⟨b, 0, none⟩), .string x.g, .slice x.A x.ns.length x.c] W (TellPost base b (L ++ [x]) np W) := by
  obtain ⟨v, h1, h2⟩ := h.box
  obtain ⟨Av, cv, rfl, _, _⟩ := ownsRow_slice h2
  have HO := Lib.hid h.own
  have c0 := cell_of_row W b 1 _ _ _ h1
  have c1 : W.cell? ⟨b, 1, none⟩ = some (.slice Av L.length cv) := c0
  have f1 : W.frozen? ⟨b, 1, none⟩ = false := by simp [World.frozen?, h1]
  have H1 := Lib.hid h1
  have H2 := Lib.hid h2
  have HX := Lib.hid hx
  clear h h1 h2 hx c0
  go_enter Tryz.func74, Tryz.ntmps74
  go_wp2_with (at_builtin; go_loud (refine wpList_append_line rfl _ _ rfl base _ L x W.heap.size 1 rfl (H2.out.alloc _) rfl (cell_two _ _ _ _) hl (by rw [World.size_alloc]; omega) ?_; intro v' w3 hown2 hgrow; obtain ⟨A3, c3, hv3, _, _⟩ := ownsRow_slice hown2; subst hv3; obtain ⟨hO2, hT2⟩ := OwO.line hb hbase H1.out H2.out HO.out ⟨HX.out, hxc, hxm⟩ hgrow hown2; rw [show (L ++ [x]).length = L.length + 1 from by rw [List.length_append]; rfl] at hO2 hT2; have hb3 := add_box hb H1.out H2.out hgrow; have d1 : w3.cell? ⟨b, 1, none⟩ = some (.slice Av L.length cv) := cell_of_row w3 b 1 _ _ _ hb3; have e1 : w3.frozen? ⟨b, 1, none⟩ = false := frozen_of_row w3 b 1 _ _ hb3; have HO2 := Lib.hid hO2; have HT2 := Lib.hid hT2; clear hO2 hT2 hown2 hgrow hb3))
  go_end0
  exact ⟨rfl, HO2.out, HT2.out⟩

set_option maxHeartbeats 1000000 in
theorem tell0_any (base b : Nat) (L : List LX) (np : Bool) (A : Option Addr) (c : Nat) (l : List Bs) (W : World) (h : OwO base b L np W) :
    Calls Tryz.prog 69 #[.pointer (some ⟨b, 0, none⟩), .slice A l.length c] W (TellPost base b L np W) := by
  have HH := Lib.hid h; clear h
  go_enter Tryz.func69, Tryz.ntmps69
  go_wp2_with fail
  go_end0
  exact ⟨rfl, HH.out, TurnO.of_below (Below.refl _ _)⟩

set_option maxHeartbeats 1000000 in
theorem tell1_any (base b : Nat) (L : List LX) (np : Bool) (A : Option Addr) (c : Nat) (l : List Bs) (W : World) (h : OwO base b L np W) (hb : b < base) :
    Calls Tryz.prog 71 #[.pointer (some ⟨b, 0, none⟩), .slice A l.length c] W (TellPost base b L true W) := by
  obtain ⟨v, h1, h2⟩ := h.box
  have HO := Lib.hid h.own
  have c1 : W.cell? ⟨b, 0, none⟩ = some (.bool np) := cell_of_row W b 0 _ _ _ h1
  have f1 : W.frozen? ⟨b, 0, none⟩ = false := by simp [World.frozen?, h1]
  have H1 := Lib.hid h1
  have H2 := Lib.hid h2
  clear h h1 h2
  go_enter Tryz.func71, Tryz.ntmps71
  go_wp2_with fail
  go_end0
  have h4 : (W.setCell ⟨b, 0, none⟩ (.bool true)).heap[b]? = some (.cells #[.bool true, v] 24 (0, 0)) := heap_setCell_same W b 0 _ _ (.bool true) H1.out
  refine ⟨rfl, ⟨⟨v, h4, H2.out.kept (grownBy_cell W b 0 _) ?_⟩, fun y hy => ⟨(HO.out y hy).1.keep fun g cur hbg hgg => heap_setCell_other W ⟨b, 0, none⟩ g _ (by show g ≠ b; omega), (HO.out y hy).2⟩⟩, ⟨rfl, rfl, rfl, by simp [World.setCell], fun j o hj hn _ => (heap_setCell_other W ⟨b, 0, none⟩ j _ hn).trans hj, fun j _ _ hn => heap_setCell_other W ⟨b, 0, none⟩ j _ hn⟩⟩
  rcases H2.out.2 with ⟨rfl, _⟩ | ⟨g, cap, cur, rfl, hbg, _⟩
  · exact .inl rfl
  · refine .inr fun e => ?_
    simp only [Value.ownBlock, Option.some.injEq] at e
    omega

set_option maxRecDepth 100000 in
set_option maxHeartbeats 2000000 in
theorem tell3_any (base b : Nat) (L : List LX) (np : Bool) (A : Option Addr) (c : Nat) (l : List Bs) (W : World) (h : OwO base b L np W) (hl : L.length ≤ 100000) (hb : b < base) (hbase : base ≤ W.heap.size) (hx : StrsT base W A l) (hxc : l.length ≤ c) (hxm : c ≤ maxLen) :
    Calls Tryz.prog 76 #[.pointer (some ⟨b, 0, none⟩), .slice A l.length c] W (TellPost base b (L ++ [⟨⟨#[]⟩, A, c, l⟩]) np W) := by
  have HA := Lib.hid (add_any base b L np ⟨⟨#[]⟩, A, c, l⟩ W h hl hb hbase hx hxc hxm)
  clear h hx
  go_enter Tryz.func76, Tryz.ntmps76
  go_wp2_with fail
  refine HA.out.mono ?_
  rintro e w' ⟨rfl, h1, h2⟩
  go_wp2_with fail
  go_end0
  exact ⟨rfl, h1, h2⟩
set_option maxRecDepth 100000 in
set_option maxHeartbeats 2000000 in
theorem tell2_any (base b : Nat) (L : List LX) (np : Bool) (g o : Nat) (c : Nat) (l : List Bs) (W : World) (h : OwO base b L np W) (hl : L.length ≤ 100000) (hb : b < base) (hbase : base ≤ W.heap.size) (hx : StrsT base W (some ⟨g, o, none⟩) l) (hxc : l.length ≤ c) (hxm : c ≤ maxLen) (h2 : 2 < l.length) :
    Calls Tryz.prog 73 #[.pointer (some ⟨b, 0, none⟩), .slice (some ⟨g, o, none⟩) l.length c] W (TellPost base b (L ++ [⟨mkB (l.getD 1 []), some ⟨g, o + 2, none⟩, c - 2, l.drop 2⟩]) np W) := by
  have hdl : (l.drop 2).length = l.length - 2 := List.length_drop
  have hdr : Below W.heap.size W W.drew := ⟨rfl, rfl, rfl, Nat.le_refl _, fun _ _ => rfl⟩
  have hbq := Lib.hid (TurnO.of_below (base := base) (b := b) hdr)
  have HA := Lib.hid (add_any base b L np ⟨mkB (l.getD 1 []), some ⟨g, o + 2, none⟩, c - 2, l.drop 2⟩ W.drew (h.below hdr) hl hb hbase ((hx.below hdr).drop 2) (by show (l.drop 2).length ≤ c - 2; omega) (by show c - 2 ≤ maxLen; omega))
  obtain ⟨cur, hbg, hgg, hcu⟩ : ∃ cur, base ≤ g ∧ W.heap[g]? = some (.cells cur 9 (0, 0)) ∧ cur[o + 1]? = some (.string (mkB (l.getD 1 []))) := by
    obtain ⟨g', o', cur, e, h1, h3, hc⟩ := hx (by omega)
    simp only [Option.some.injEq, Addr.mk.injEq] at e
    obtain ⟨rfl, rfl, _⟩ := e
    refine ⟨cur, h1, h3, hc 1 _ ?_⟩
    rw [List.getD_eq_getElem?_getD, List.getElem?_eq_getElem (by omega)]; rfl
  have HGG := Lib.hid hgg
  have HCU := Lib.hid hcu
  clear hgg hcu
  have c1 : W.cell? ⟨g, o + 1, none⟩ = some (.string (mkB (l.getD 1 []))) := by
    obtain ⟨g', o', e, hc⟩ := hx.at_ (by omega)
    simp only [Option.some.injEq, Addr.mk.injEq] at e
    obtain ⟨rfl, rfl, _⟩ := e
    refine hc 1 _ ?_
    rw [List.getD_eq_getElem?_getD, List.getElem?_eq_getElem (by omega)]; rfl
  unfold maxLen at hxm
  obtain ⟨n, hn⟩ : ∃ n, l.length = n := ⟨_, rfl⟩
  have hA := HA.out
  rw [show (⟨mkB (l.getD 1 []), some ⟨g, o + 2, none⟩, c - 2, l.drop 2⟩ : LX).ns.length = n - 2 from by show (l.drop 2).length = n - 2; omega] at hA
  have HA := Lib.hid hA
  clear hA
  rw [hn] at hxc h2 ⊢
  have g1 : (1 : Int) < (n : Int) := by omega
  have g2 : (2 : Int) ≤ (n : Int) := by omega
  have g3 : (n : Int) ≤ (c : Int) := by omega
  have e3 : c ≠ 2 := by omega
  have HN := Lib.hid hn
  clear h hx hdl hn hdr
  go_enter Tryz.func73, Tryz.ntmps73
  go_wp2_with fail
  refine wp_region_held_drew (S := (fun w' => w'.cell? ⟨g, o + 1, none⟩ = some (.string (mkB (l.getD 1 []))))) (by kernel_rfl) c1 (fun hHeld => ?_)
  refine wpAnyH_take (i := 0) (v := ?v0) rfl (by kernel_rfl) (by kernel_rfl) (by kernel_rfl) (fun _ _ _ h => h) (Or.inl ⟨by rfl, ?y0⟩) (by assumption) ?r0
  case y0 =>
    intro w hSw
    (try dsimp only at hSw)
    go_simp
    first | done | with_reducible rfl
  try simp only [Act.put, List.getElem_toArray, List.getElem_cons_zero, List.setIfInBounds_toArray, List.set_cons_zero, List.set_cons_succ]
  refine wpAnyH_take (i := 1) (v := ?v1) rfl (by kernel_rfl) (by kernel_rfl) (by kernel_rfl) (fun _ _ _ h => h) (Or.inl ⟨by rfl, ?y1⟩) (by assumption) ?r1
  case y1 =>
    intro w hSw
    (try dsimp only at hSw)
    go_simp
    first | done | with_reducible rfl
  try simp only [Act.put, List.getElem_toArray, List.getElem_cons_zero, List.getElem_cons_succ, List.setIfInBounds_toArray, List.set_cons_zero, List.set_cons_succ]
  refine wpAnyH_take (i := 2) (v := ?v2) rfl (by kernel_rfl) (by kernel_rfl) (by kernel_rfl) (fun _ _ _ h => h) (Or.inl ⟨by rfl, ?y2⟩) (by assumption) ?r2
  case y2 =>
    intro w hSw
    (try dsimp only at hSw)
    go_simp
    first | done | with_reducible rfl
  try simp only [Act.put, List.getElem_toArray, List.getElem_cons_zero, List.getElem_cons_succ, List.setIfInBounds_toArray, List.set_cons_zero, List.set_cons_succ]
  refine wpAnyH_take (i := 3) (v := ?v3) rfl (by kernel_rfl) (by kernel_rfl) (by kernel_rfl) (fun _ _ _ h => h) (Or.inl ⟨by rfl, ?y3⟩) (by assumption) ?r3
  case y3 =>
    intro w hSw
    (try dsimp only at hSw)
    go_simp
    first | done | with_reducible rfl
  try simp only [Act.put, List.getElem_toArray, List.getElem_cons_zero, List.getElem_cons_succ, List.setIfInBounds_toArray, List.set_cons_zero, List.set_cons_succ]
  refine wpAnyH_take (i := 4) (v := ?v4) rfl (by kernel_rfl) (by kernel_rfl) (by kernel_rfl) (fun _ _ _ h => h) (Or.inl ⟨by rfl, ?y4⟩) (by assumption) ?r4
  case y4 =>
    intro w hSw
    (try dsimp only at hSw)
    go_simp
    first | done | with_reducible rfl
  try simp only [Act.put, List.getElem_toArray, List.getElem_cons_zero, List.getElem_cons_succ, List.setIfInBounds_toArray, List.set_cons_zero, List.set_cons_succ]
  refine wpAnyH_take (i := 5) (v := ?v5) rfl (by kernel_rfl) (by kernel_rfl) (by kernel_rfl) (fun _ _ _ h => h) (Or.inl ⟨by rfl, ?y5⟩) (by assumption) ?r5
  case y5 =>
    intro w hSw
    (try dsimp only at hSw)
    go_simp
    first | done | with_reducible rfl
  try simp only [Act.put, List.getElem_toArray, List.getElem_cons_zero, List.getElem_cons_succ, List.setIfInBounds_toArray, List.set_cons_zero, List.set_cons_succ]
  refine wpAnyH_ready (rs := [6]) (by kernel_rfl) (by simp) ?_
  refine AllReadyH.cons rfl (fun K hK => ?_) AllReadyH.nil
  go_simp
  refine HA.out.mono ?_
  rintro e w9 ⟨rfl, h1, h2⟩
  have c9 : w9.cell? ⟨g, o + 1, none⟩ = some (.string (mkB (l.getD 1 []))) := (cell_of_row w9 g (o + 1) _ _ _ (h2.same g _ HGG.out (by omega) (fun cur fr e => by simp at e))).trans HCU.out
  have HR1 := Lib.hid h1
  have HR2 := Lib.hid (hbq.out.trans h2)
  clear h1 h2
  go_wp2_with fail
  refine hK.out _ _ c9 (fun hHeld => ?_)
  clear hK K
  try simp only [Act.put, List.getElem_toArray, List.getElem_cons_zero, List.getElem_cons_succ, List.setIfInBounds_toArray, List.set_cons_zero, List.set_cons_succ]
  refine wpAnyH_done (by kernel_rfl) ?_ _
  go_wp2_with fail
  go_end0
  exact ⟨rfl, HR1.out, HR2.out⟩
end Go.Proofs.YtkihgbggndikpaaGreatDoor
