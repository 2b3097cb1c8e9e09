/-
  The contracts of owners.upFrom (an iterator), at, and of the closure that Of hands in.
-/
import Derived.Test.YtkihgbggndikpaaGreatDoorOwUps
import Derived.Test.YtkihgbggndikpaaGreatDoorOwParse
import Derived.Test.YtkihgbggndikpaaGreatDoorTPuts
import Derived.Test.YtkihgbggndikpaaGreatDoorTLawKnown
import Derived.Test.YtkihgbggndikpaaGreatDoorMatch
namespace Go.Proofs.YtkihgbggndikpaaGreatDoor
open Go Go.RowKit Go.Shelf Go.Proofs
attribute [local go_sem] Oper.semAt_some

/-- What is there, but for maps and their like, stays. -/
structure KeepC (w w' : World) : Prop where
  size : w.heap.size ≤ w'.heap.size
  same : ∀ (j : Nat) (o : Obj), w.heap[j]? = some o → o.isCells = true → w'.heap[j]? = some o
theorem KeepC.of_below {w w' : World} (h : Below w.heap.size w w') : KeepC w w' := ⟨h.size, fun j _o hj _ => (h.block j (Array.getElem?_eq_some_iff.1 hj).1).trans hj⟩
theorem KeepC.trans {a b c : World} (h : KeepC a b) (k : KeepC b c) : KeepC a c := ⟨Nat.le_trans h.size k.size, fun j o hj hc => k.same j o (h.same j o hj hc) hc⟩
theorem KeepC.refl (w : World) : KeepC w w := ⟨Nat.le_refl _, fun _ _ h _ => h⟩
theorem cells_of_cell {w : World} {g i : Nat} {v : Value} (h : w.cell? ⟨g, i, none⟩ = some v) : ∃ o, w.heap[g]? = some o ∧ o.isCells = true := by
  unfold World.cell? at h
  cases hg : w.heap[g]? with
  | none => simp [hg] at h
  | some ob =>
    cases ob with
    | cells C t fr => exact ⟨_, rfl, rfl⟩
    | _ => simp [hg] at h
theorem KeepC.cell {w w' : World} (k : KeepC w w') {g i : Nat} {v : Value} (h : w.cell? ⟨g, i, none⟩ = some v) : w'.cell? ⟨g, i, none⟩ = some v := by
  obtain ⟨o, ho, hc⟩ := cells_of_cell h
  exact (World.cell?_of_block (a := ⟨g, i, none⟩) ((k.same g o ho hc).trans ho.symm)).trans h
theorem KeepC.box {w w' : World} (k : KeepC w w') {b : Nat} {t : TypeId} {v : Value} (h : Boxed w b t v) : Boxed w' b t v := k.same _ _ h rfl
theorem KeepC.strs {w w' : World} (k : KeepC w w') {A : Option Addr} {l : List Bs} (h : StrsAt w A l) : StrsAt w' A l := fun hn => by
  obtain ⟨g, o, e, hc⟩ := h hn
  exact ⟨g, o, e, fun i p hp => k.cell (hc i p hp)⟩
theorem KeepC.lines {w w' : World} (k : KeepC w w') {A : Option Addr} {c : Nat} {l : List LX} (h : LinesAt w A c l) : LinesAt w' A c l :=
  ⟨h.cap, h.capm, fun hn => by
    obtain ⟨g, o, e, hr⟩ := h.row hn
    exact ⟨g, o, e, fun i x hx => ⟨k.cell (hr i x hx).1, k.cell (hr i x hx).2⟩⟩, fun x hx => ⟨k.strs (h.own x hx).1, (h.own x hx).2⟩⟩
theorem KeepC.tabs {w w' : World} (k : KeepC w w') (h : TabsOk w) : TabsOk w' := ⟨fun c hc => k.cell (h.1 c hc), fun i hi => ⟨k.cell (h.2 i hi).1, k.cell (h.2 i hi).2⟩⟩
theorem KeepC.max {w w' : World} (k : KeepC w w') (h : MaxOk w) : MaxOk w' := by
  obtain ⟨h0, h1, m, hm⟩ := h
  exact ⟨Nat.lt_of_lt_of_le h0 k.size, Nat.lt_of_lt_of_le h1 k.size, m, k.cell hm⟩
theorem KeepC.bytes {w w' : World} (k : KeepC w w') {A : Option Addr} {b : Bs} (h : BytesAt w A b) : BytesAt w' A b := fun hn => by
  obtain ⟨g, o, e, hc⟩ := h hn
  exact ⟨g, o, e, fun i hi => k.cell (hc i hi)⟩
theorem KeepC.tree {w w' : World} (k : KeepC w w') {A : Option Addr} {c : Nat} {l : List FX} (h : TreeAt w A c l) : TreeAt w' A c l :=
  ⟨h.cap, h.capm, fun hn => by
    obtain ⟨g, o, e, hr⟩ := h.row hn
    exact ⟨g, o, e, fun i x hx => ⟨k.cell (hr i x hx).1, k.cell (hr i x hx).2⟩⟩, fun x hx => k.bytes (h.files x hx)⟩

def upsB (d : ByteArray) : List ByteArray := (ups d.data.toList).map mkB
def sizeV3 : Value → Nat
  | .string s => s.size
  | _ => 0
def KeepU (bd : Nat) (k : Nat) : Prop := k = bd
theorem upsB_at {d : ByteArray} {k : Nat} {c : Bs} (h : (ups d.data.toList).drop k = ups c) : (upsB d)[k]? = some (mkB c) ∧ (c.isEmpty = true → (upsB d).length = k + 1) ∧ (c.isEmpty = false → (ups d.data.toList).drop (k + 1) = ups (dirL c)) := by
  rw [ups_step c] at h
  refine ⟨?_, fun e => ?_, fun e => ?_⟩
  · unfold upsB
    rw [List.getElem?_map, ← List.head?_drop, h]; rfl
  · rw [if_pos e] at h
    have h1 := congrArg List.length h
    rw [List.length_drop] at h1
    unfold upsB
    rw [List.length_map]
    simp at h1; omega
  · rw [← List.drop_drop, h, if_neg (by simp [e])]; rfl

set_option maxRecDepth 100000 in
set_option maxHeartbeats 4000000 in
theorem ups_in (n l bd : Nat) (d : ByteArray) (hd : d.size ≤ 1000000) (J Jx : Nat → World → Prop) (W : World)
    (hY : ∀ k x W1, J k W1 → (upsB d)[k]? = some x → YieldAt Fence.wide (n - 1) Tryz.prog l #[.string x] W1 fun e W' =>
      (e = .returned (.bool true) ∧ J (k + 1) W' ∧ KeepsB (KeepU bd) W1 W') ∨ (e = .returned (.bool false) ∧ Jx (k + 1) W'))
    (b1 : Boxed W bd 9 (.string d)) (h0 : J 0 W) :
    CallsIn Fence.wide n Tryz.prog 88 #[.func (.yield l) #[] #[], .pointer (some ⟨bd, 0, none⟩)] W fun e W' =>
      (∃ v, e = .returned v) ∧ (J (upsB d).length W' ∨ ∃ k, k ≤ (upsB d).length ∧ Jx k W') := by
  refine callsIn_of_wp Tryz.func88 rfl trivial ?_ rfl
  simp only [Tryz.ntmps88, List.size_toArray, List.length_cons, List.length_nil, Nat.reduceAdd, Nat.reduceSub, Array.replicate_succ, Array.replicate_zero, List.push_toArray, List.append_toArray, List.nil_append, List.cons_append]
  have c1 := b1.cell
  gi_wp2
  clear c1
  gi_loopw [3] (fun v3 wr => ∃ (k : Nat) (c : ByteArray), v3 = .string c ∧ c.size ≤ 1000000 ∧ Hid ((ups d.data.toList).drop k = ups c.data.toList) ∧ J k wr) (fun v3 _ => sizeV3 v3)
  case atStart => exact ⟨0, d, rfl, hd, rfl, h0⟩
  case round =>
    obtain ⟨k, c, rfl, hcs, hk, hj⟩ := hrel
    obtain ⟨hx, he1, he2⟩ := upsB_at hk.out
    rw [data_mkB] at hx
    obtain ⟨fn, tmps, assign, body, hy, hR⟩ := hY k c wr hj hx
    have hk1 : k + 1 ≤ (upsB d).length := (List.getElem?_eq_some_iff.1 hx).1
    have HX := Lib.hid hx; clear hx
    have HP := Lib.hid (pdir_any c)
    by_cases h1 : c.toList = []
    · have g1 : c.toList.isEmpty = true := by simp [h1]
      have g2 : (!c.toList.isEmpty) = false := by simp [h1]
      have HL := Lib.hid (he1 (by rw [← ByteArray.toList_eq, h1]; rfl))
      clear he1 he2 h1
      gi_wp2_with fail
      refine wide_round hR ?_
      rintro e W3 (⟨rfl, hJ3, hk3⟩ | ⟨rfl, hJx3⟩)
      · gi_wp2_with fail
        go_end0
        exact ⟨⟨_, rfl⟩, .inl (HL.out ▸ hJ3)⟩
      · gi_wp2_with fail
        go_end0
        exact ⟨⟨_, rfl⟩, .inr ⟨k + 1, hk1, hJx3⟩⟩
    · have g1 : c.toList.isEmpty = false := by simpa using h1
      have h1' : c.data.toList ≠ [] := by rw [← ByteArray.toList_eq]; exact h1
      have HD := Lib.hid (he2 (by cases e : c.data.toList with | nil => exact absurd e h1' | cons _ _ => rfl))
      have hlt := dir_less c h1'
      have hsm := dir_small c hcs
      have HLT := Lib.hid hlt
      clear he1 he2 h1 h1' hlt
      gi_wp2_with fail
      refine wide_round hR ?_
      rintro e W3 (⟨rfl, hJ3, hk3⟩ | ⟨rfl, hJx3⟩)
      · gi_wp2_with fail
        refine wide_call (HP.out W3 hcs) ?_
        rintro e w' ⟨rfl, rfl⟩
        gi_wp2_with fail
        refine ⟨⟨k + 1, _, rfl, hsm, by have := HD.out; rw [mkB_data]; exact this, hJ3⟩, ?_⟩
        exact HLT.out
      · gi_wp2_with fail
        go_end0
        exact ⟨⟨_, rfl⟩, .inr ⟨k + 1, hk1, hJx3⟩⟩

theorem ups_list (n bd : Nat) (d : ByteArray) (hd : d.size ≤ 1000000) (w : World) (b1 : Boxed w bd 9 (.string d)) :
    SeqList Fence.wide n Tryz.prog 88 #[.pointer (some ⟨bd, 0, none⟩)] (fun x : ByteArray => #[Value.string x]) (KeepsB (KeepU bd)) NoT (upsB d) w :=
  fun l J Jx W hW _ _ hY h0 => ups_in n l bd d hd J Jx W hY ((hW.block bd b1.lt).trans b1) h0

set_option maxHeartbeats 1000000 in
theorem upFrom_any (d : ByteArray) (w : World) :
    Calls Tryz.prog 55 #[.string d] w fun e w' => e = .returned (.func (.func 88) #[] #[.pointer (some ⟨w.heap.size, 0, none⟩)]) ∧ w' = w.alloc (.cells #[.string d] 9) := by
  go_enter Tryz.func55, Tryz.ntmps55
  go_wp2
  go_ret
  exact ⟨rfl, rfl⟩
end Go.Proofs.YtkihgbggndikpaaGreatDoor
