/-
  Bytes in memory, as layer 5 (frame) wants them: slices of bytes, bytes of the call's own, append, string(b), bytes.Clone, Same.
-/
import Derived.Test.YtojkifcclgecoaaCProg
import Derived.Test.YtojkifcclgecoaaFrPlain
import Derived.Test.YtojkifcclgecoaaShelf
import Derived.Laws.AppendOwn
import Derived.Laws.OwnMore
import Derived.OwnWalkIn
namespace Go.Proofs.Ytojkifcclgecoaa
open Go Go.RowKit Go.Shelf Go.Proofs

theorem ret_b {a b : Bool} (h : a = b) : Ending.returned (.bool a) = .returned (.bool b) := by rw [h]
/-- The slice value .slice A n c shows the bytes b. -/
structure SlAt (w : World) (A : Option Addr) (c : Nat) (b : Bs) : Prop where
  bytes : BytesAt w A b
  cap : b.length ≤ c
  capm : c ≤ maxLen
  nil : A = none → c = 0
theorem SlAt.below {w w' : World} {A : Option Addr} {c : Nat} {b : Bs} (h : SlAt w A c b) (hb : Below w.heap.size w w') : SlAt w' A c b := ⟨h.bytes.below hb, h.cap, h.capm, h.nil⟩
theorem SlAt.none (w : World) : SlAt w none 0 [] := ⟨BytesAt.nil _ _, Nat.le_refl _, Nat.zero_le _, fun _ => rfl⟩
theorem SlAt.c63 {w : World} {A : Option Addr} {c : Nat} {b : Bs} (h : SlAt w A c b) : c ≤ 9223372036854775807 := by have := h.capm; unfold maxLen at this; omega
/-- Byte by byte. -/
theorem BytesAt.of_cells {w : World} {g o : Nat} {b : Bs} (h : ∀ i x, b[i]? = some x → w.cell? ⟨g, o + i, none⟩ = some (.int .u8 (x.toNat : Int))) : BytesAt w (some ⟨g, o, none⟩) b := fun _ => ⟨g, o, rfl, fun i hi => by
  rw [h i _ (List.getElem?_eq_getElem hi)]
  have e2 : (numsB b)[i]? = some ((b[i].toNat : Nat) : Int) := by unfold numsB; rw [List.getElem?_map, List.getElem?_eq_getElem hi]; rfl
  rw [List.getD_eq_getElem?_getD, e2]; rfl⟩
theorem BytesAt.cell {w : World} {g o : Nat} {b : Bs} {i : Nat} {x : UInt8} (h : BytesAt w (some ⟨g, o, none⟩) b) (hx : b[i]? = some x) : w.cell? ⟨g, o + i, none⟩ = some (.int .u8 (x.toNat : Int)) := by
  obtain ⟨g', o', e, hc⟩ := h.byte hx
  cases e; exact hc
/-- A piece of some bytes. -/
theorem BytesAt.piece {w : World} {g o : Nat} {b : Bs} (h : BytesAt w (some ⟨g, o, none⟩) b) (i n : Nat) : BytesAt w (some ⟨g, o + i, none⟩) ((b.drop i).take n) :=
  BytesAt.of_cells fun j x hx => by
    have hx2 : b[i + j]? = some x := by
      have h1 := (List.getElem?_eq_some_iff.1 hx).1
      rw [List.length_take] at h1
      rw [List.getElem?_take_of_lt (by omega), List.getElem?_drop] at hx
      exact hx
    have := h.cell hx2
    rwa [Nat.add_assoc]
theorem SlAt.addr {w : World} {A : Option Addr} {c : Nat} {b : Bs} (h : SlAt w A c b) (hn : 0 < b.length) : ∃ g o, A = some ⟨g, o, Option.none⟩ := by
  obtain ⟨g, o, e, _⟩ := h.bytes hn
  exact ⟨g, o, e⟩

def valsB (b : Bs) : List Value := b.map fun x => .int .u8 (x.toNat : Int)
theorem valsB_length (b : Bs) : (valsB b).length = b.length := by unfold valsB; simp
theorem valsB_append (a b : Bs) : valsB (a ++ b) = valsB a ++ valsB b := by unfold valsB; simp
/-- Bytes of the call's own. -/
def OB (base : Nat) (w : World) (v : Value) (b : Bs) : Prop := w.ownsRow base 5 1 v b.length (valsB b)
theorem fr_u8 : (Try.prog.info? 5).map (fun i => (i.zero, i.size, i.bytes)) = some (some (.int .u8 0), 1, 1) := by kernel_rfl
theorem OB.nil (base : Nat) (w : World) : OB base w (.slice none 0 0) [] := World.ownsRow_nil _ _ _ _
theorem OB.sl {base : Nat} {w : World} {v : Value} {b : Bs} (h : OB base w v b) : ∃ A c, v = .slice A b.length c ∧ SlAt w A c b ∧ (0 < b.length → ∃ g, A = some ⟨g, 0, none⟩ ∧ base ≤ g ∧ ∃ cur, w.heap[g]? = some (.cells cur 5 (0, 0))) := by
  have h0 := h
  rcases h.2 with ⟨rfl, hn⟩ | ⟨g, cap, cur, rfl, hb, hg, hnc, hcm, _⟩
  · obtain rfl := List.eq_nil_of_length_eq_zero hn
    exact ⟨none, 0, rfl, SlAt.none w, fun h => absurd h (by simp)⟩
  · refine ⟨some ⟨g, 0, none⟩, cap, rfl, ⟨BytesAt.of_cells fun i x hx => ?_, hnc, hcm, fun e => by cases e⟩, fun _ => ⟨g, rfl, hb, cur, hg⟩⟩
    have h1 := World.ownsRow.cells h0 (g := g) rfl i (.int .u8 (x.toNat : Int)) (by unfold valsB; rw [List.getElem?_map, hx]; rfl)
    rw [Go.WideShapes.add_plain] at h1
    exact h1
theorem OB.alloc {base : Nat} {w : World} {v : Value} {b : Bs} (h : OB base w v b) (o : Obj) : OB base (w.alloc o) v b := World.ownsRow.alloc h o
theorem OB.below {base : Nat} {w w' : World} {v : Value} {b : Bs} (h : OB base w v b) (hb : Below w.heap.size w w') : OB base w' v b :=
  World.ownsRow.kept (row := none) h ⟨hb.os, hb.tape, hb.output, hb.size, fun k hk _ => hb.block k hk⟩ (by cases (Value.ownBlock v) <;> simp)
theorem OB.mono {base base' : Nat} {w : World} {v : Value} {b : Bs} (h : OB base w v b) (hb : base' ≤ base) : OB base' w v b := by
  refine ⟨h.1, ?_⟩
  rcases h.2 with hn | ⟨g, cap, cur, rfl, hbg, rest⟩
  · exact .inl hn
  · exact .inr ⟨g, cap, cur, rfl, Nat.le_trans hb hbg, rest⟩
theorem OB.ge {base : Nat} {w : World} {v : Value} {b : Bs} (h : OB base w v b) : ∀ k, v.ownBlock = some k → base ≤ k := fun k hk => (World.ownsRow.lt h k hk).1

section
variable {base : Nat} {w : World} {v : Value} {l : Bs} {A : Option Addr} {c : Nat} {b : Bs}
theorem sl_news (hb : SlAt w A c b) (g o : Nat) (s : _) (hA : A = some ⟨g, o, s⟩) : ∀ j u, (valsB b)[j]? = some u → w.cell? ((⟨g, o, s⟩ : Addr).add j) = some u := fun j u hu => by
  unfold valsB at hu
  rw [List.getElem?_map] at hu
  obtain ⟨y, hy, rfl⟩ := Option.map_eq_some_iff.1 hu
  obtain ⟨g', o', e', hc'⟩ := hb.bytes.byte hy
  rw [hA] at e'
  cases e'
  rw [Go.WideShapes.add_plain]; exact hc'
theorem vals_one (b : Bs) : ∀ u ∈ valsB b, u.oneCell' = true := fun u hu => by
  unfold valsB at hu
  obtain ⟨y, _, rfl⟩ := List.mem_map.1 hu; rfl

theorem wp_appB {o : Oper} {a : Act} {K : Act → World → Prop} {Q : Exit → Act → World → Prop} (s x : Operand)
    (ho : o.op = .call { callee := .builtin .append, args := #[s, x], argTypes := #[29, 29] }) (hs : a.eval s = v) (hown : OB base w v l)
    (hx : a.eval x = .slice A b.length c) (hb : SlAt w A c b) (hlen : l.length + b.length ≤ 1000000) (hbase : base ≤ w.heap.size)
    (h : ∀ v' w', OB base w' v' (l ++ b) → w.grownBy w' v.ownBlock → K (a.put o.dst v') w') : Oper.wp Try.prog o a w K Q := by
  obtain ⟨i0, hi, hz0, hz1, hz2⟩ := info_parts fr_u8
  cases A with
  | none =>
    have hc := hb.nil rfl
    have hn : b = [] := by
      cases b with
      | nil => rfl
      | cons x r => obtain ⟨g, o, e⟩ := hb.addr (by simp); cases e
    subst hn hc
    have hr := run_append_owned_none (P := Try.prog) (w := w) base 29 o.type 5 i0 1 Try.underlying29 hi v l.length (valsB l) hown
    unfold Oper.wp execOp
    have hx : a.eval x = .slice none 0 0 := hx
    simp only [ho, resolve, invoke, builtin, Sem.run_bind, Sem.run_pure, Result.andThen_ok, List.map_toArray, List.map_cons, List.map_nil, hs, hx, hr]
    have h := h v w (by rw [List.append_nil]; exact hown)
    exact h ⟨rfl, rfl, rfl, Nat.le_refl _, fun _ _ _ => rfl⟩
  | some ad =>
    obtain ⟨g, o', s'⟩ := ad
    refine wp_append_own w s x 29 ho base 5 i0 (.int .u8 0) 1 1 Try.underlying29 hi hz0 hz1 hz2 rfl (by decide) v l.length (valsB l) hs hown ⟨g, o', s'⟩ b.length c (valsB b) hx (by rw [valsB_length, Nat.mul_one])
      (sl_news hb g o' s' rfl) (vals_one b) (by unfold maxLen; omega) (by omega) hbase fun v' w' h1 h2 _ => h v' w' ?_ h2
    unfold OB
    rw [List.length_append, valsB_append]
    exact h1
theorem wpList_appB {ops : Array Oper} {rest : List Oper} {o : Oper} {a : Act} {Q : Exit → Act → World → Prop} (hgd : o.guard = none) (s x : Operand)
    (ho : o.op = .call { callee := .builtin .append, args := #[s, x], argTypes := #[29, 29] }) (hs : a.eval s = v) (hown : OB base w v l)
    (hx : a.eval x = .slice A b.length c) (hb : SlAt w A c b) (hlen : l.length + b.length ≤ 1000000) (hbase : base ≤ w.heap.size)
    (h : ∀ v' w', OB base w' v' (l ++ b) → w.grownBy w' v.ownBlock → wpList Try.prog ops Q rest (a.put o.dst v') w') : wpList Try.prog ops Q (o :: rest) a w :=
  wpList_plain hgd fun _ hK => wp_appB s x ho hs hown hx hb hlen hbase fun v' w' h2 h3 => hK _ _ (h v' w' h2 h3)
end
/-- Nothing below is touched by an append to bytes of the call's own. -/
theorem below_app {n₀ base : Nat} {w0 w w' : World} {v : Value} {b : Bs} (hb : Below n₀ w0 w) (hown : OB base w v b) (hg : w.grownBy w' v.ownBlock) (hn : n₀ ≤ base) (hs : n₀ ≤ w.heap.size) : Below n₀ w0 w' :=
  hb.grown hg hs (fun k e => Nat.le_trans hn (hown.ge k e))

/-- string(b). -/
theorem fr_str (w : World) (A : Option Addr) (c : Nat) (b : Bs) (h : BytesAt w A b) : (convert 29 9 (.slice A b.length c)).run Try.prog w = .ok (.string (mkB b)) w := by
  cases b with
  | nil => exact run_convert_bytes_zero w 29 5 Try.underlying29 Try.underlying5 A c 9 Try.underlying9
  | cons x r =>
    obtain ⟨g, o, rfl, hc⟩ := h (by simp)
    refine run_convert_bytes_back w 29 9 5 ⟨g, o, none⟩ c (x :: r) Try.underlying29 Try.underlying5 Try.underlying9 fun j hj => ?_
    rw [Go.WideShapes.add_plain, hc j hj]
    have e : (numsB (x :: r))[j]? = some (((x :: r)[j].toNat : Nat) : Int) := by unfold numsB; rw [List.getElem?_map, List.getElem?_eq_getElem hj]; rfl
    rw [List.getD, e]; rfl
theorem fr_mkB_eq (a b : Bs) : ((mkB a).toList == (mkB b).toList) = (a == b) := by
  rw [ByteArray.toList_eq, ByteArray.toList_eq, mkB_data, mkB_data]

set_option maxHeartbeats 1000000 in
theorem frsame_any (a b : Bs) (A B : Option Addr) (c d : Nat) (w : World) (ha : BytesAt w A a) (hb : BytesAt w B b) :
    Calls Try.prog 20 #[.slice A a.length c, .slice B b.length d] w fun e w' => e = .returned (.bool (a == b)) ∧ Below w.heap.size w w' := by
  have h1 := fr_str w A c a ha
  have h2 := fr_str w B d b hb
  have he := fr_mkB_eq a b
  have HE := Lib.hid he; clear he
  go_enter Try.func20, Try.ntmps20
  go_wp2_with fail
  go_ret
  exact ⟨ret_b HE.out, Below.refl _ _⟩

/-- Bytes in a row of their own. -/
structure OwnS (w : World) (A : Option Addr) (c : Nat) (b : Bs) : Prop where
  sl : SlAt w A c b
  own : 0 < b.length → ∃ g cur, A = some ⟨g, 0, Option.none⟩ ∧ w.heap[g]? = some (.cells cur 5 (0, 0))
theorem OwnS.keep {w w' : World} {A : Option Addr} {c : Nat} {b : Bs} (h : OwnS w A c b) (hk : ∀ (g : Nat) (cur : Array Value), w.heap[g]? = some (Obj.cells cur 5 (0, 0)) → w'.heap[g]? = w.heap[g]?) : OwnS w' A c b := by
  refine ⟨⟨fun hn => ?_, h.sl.cap, h.sl.capm, h.sl.nil⟩, fun hn => ?_⟩
  · obtain ⟨g, cur, rfl, hh⟩ := h.own hn
    have hs := hk g cur hh
    obtain ⟨g', o', e, hc⟩ := h.sl.bytes hn
    cases e
    exact ⟨g, 0, rfl, fun i hi => (World.cell?_of_block (a := ⟨g, 0 + i, none⟩) hs).trans (hc i hi)⟩
  · obtain ⟨g, cur, rfl, hh⟩ := h.own hn
    exact ⟨g, cur, rfl, (hk g cur hh).trans hh⟩
theorem OwnS.below {w w' : World} {A : Option Addr} {c : Nat} {b : Bs} (h : OwnS w A c b) (hb : Below w.heap.size w w') : OwnS w' A c b := h.keep fun g _ hh => hb.block g (Array.getElem?_eq_some_iff.1 hh).1
theorem OwnS.none (w : World) : OwnS w none 0 [] := ⟨SlAt.none w, fun h => absurd h (by simp)⟩
theorem OB.owns {base : Nat} {w : World} {v : Value} {b : Bs} (h : OB base w v b) : ∃ A c, v = .slice A b.length c ∧ OwnS w A c b := by
  obtain ⟨A, c, e, h1, h2⟩ := h.sl
  refine ⟨A, c, e, h1, fun hn => ?_⟩
  obtain ⟨g, e2, _, cur, hg⟩ := h2 hn
  exact ⟨g, cur, e2, hg⟩

/-- The slice's block is none that was there when the heap had n blocks. -/
def NewA (n : Nat) (A : Option Addr) : Prop := ∀ a, A = some a → n ≤ a.block
theorem NewA.mono {n m : Nat} {A : Option Addr} (h : NewA n A) (hm : m ≤ n) : NewA m A := fun a e => Nat.le_trans hm (h a e)
theorem NewA.none (n : Nat) : NewA n Option.none := fun a e => by cases e
theorem OB.newA {base : Nat} {w : World} {b : Bs} {A : Option Addr} {n c : Nat} (h : OB base w (.slice A n c) b) : NewA base A := fun a e => by
  rcases h.2 with ⟨e1, _⟩ | ⟨g, cap, cur, e1, hb, _⟩
  · subst e; simp only [Value.slice.injEq] at e1; exact absurd e1.1 (by simp)
  · subst e; simp only [Value.slice.injEq, Option.some.injEq] at e1; rw [e1.1]; exact hb
theorem frclone_at (A : Option Addr) (c : Nat) (b : Bs) (w : World) (h : SlAt w A c b) (hl : b.length ≤ 1000000) :
    Calls Try.prog 58 #[.slice A b.length c] w fun e w' => ∃ (A' : Option Addr) (c' : Nat), e = .returned (.slice A' b.length c') ∧ OwnS w' A' c' b ∧ NewA w.heap.size A' ∧ Below w.heap.size w w' := by
  cases A with
  | none =>
    have hn : b = [] := by
      cases b with
      | nil => rfl
      | cons x r => obtain ⟨g, o, e⟩ := h.addr (by simp); cases e
    subst hn
    refine (Try.bytes_Clone_nil _ _ w).mono ?_
    rintro e w' ⟨rfl, rfl⟩
    exact ⟨none, 0, rfl, OwnS.none _, NewA.none _, Below.refl _ _⟩
  | some a =>
    refine (Try.bytes_Clone_at a b.length c (numsB b) w (numsB_length b) (by omega) (fun i hi => ?_)).mono ?_
    · obtain ⟨g, o, e, hc⟩ := h.bytes (by omega)
      cases e
      rw [Go.WideShapes.add_plain]
      exact hc i hi
    · rintro e w' ⟨v', rfl, hown, _, hb⟩
      have e : (numsB b).map (Value.int .u8) = valsB b := by unfold numsB valsB; rw [List.map_map]; rfl
      rw [e] at hown
      have hown : OB w.heap.size w' v' b := hown
      obtain ⟨A', c', rfl, h1⟩ := OB.owns hown
      exact ⟨A', c', rfl, h1, hown.newA, hb⟩
theorem frclone_any (A : Option Addr) (c : Nat) (b : Bs) (w : World) (h : SlAt w A c b) (hl : b.length ≤ 1000000) :
    Calls Try.prog 58 #[.slice A b.length c] w fun e w' => ∃ (A' : Option Addr) (c' : Nat), e = .returned (.slice A' b.length c') ∧ OwnS w' A' c' b ∧ Below w.heap.size w w' :=
  (frclone_at A c b w h hl).mono fun _ _ ⟨A', c', e, h1, _, h3⟩ => ⟨A', c', e, h1, h3⟩
end Go.Proofs.Ytojkifcclgecoaa
