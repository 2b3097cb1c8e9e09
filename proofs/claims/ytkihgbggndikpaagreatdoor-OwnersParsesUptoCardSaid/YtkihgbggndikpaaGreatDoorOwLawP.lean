/-
  strings.Builder: what its writing methods do here (its copy check stops at a copied one: such a builder is none of these), and a line of words written into one. · slices.Grow, slices.Concat of rows of texts; strings.Join of texts. · owners.Print: the text that tells what an OWNERS file tells. · The document's own Long and Print of what an OWNERS file tells. · The document's own Same of what OWNERS files tell. · An argument that is what an OWNERS file tells, opened; the bulk of its reading. · The law OwnersParses: what a text is parsed as, names, what is printed, and whether any two are the same.
-/
import Derived.Test.YtkihgbggndikpaaGreatDoorShelf
import Derived.Test.YtkihgbggndikpaaGreatDoorOwMem
import Derived.Shelf.Strings.BuilderK
import Derived.Lib.Hide
import Derived.Test.YtkihgbggndikpaaGreatDoorOwRefs
import Derived.Test.YtkihgbggndikpaaGreatDoorOwWordsOf
import Derived.Lib.AppendZerosOnto
import Derived.Lib.Join
import Derived.Test.YtkihgbggndikpaaGreatDoorOwKnown
import Derived.BigQuiet
import Derived.Deep.RegionHeld3
import Derived.Test.YtkihgbggndikpaaGreatDoorOwFrame
import Derived.Test.YtkihgbggndikpaaGreatDoorTOpen
import Derived.Test.YtkihgbggndikpaaGreatDoorRows
import Derived.SliceStrings
namespace Go.Proofs.YtkihgbggndikpaaGreatDoor
open Go Go.RowKit Go.Shelf Go.Proofs
attribute [local go_sem] Oper.semAt_some

theorem sb_size : (Tryz.prog.info? 77).map (·.size) = some 2 := by kernel_rfl
theorem sb_u8 : (Tryz.prog.info? 5).map (fun i => (i.zero, i.size, i.bytes)) = some (some (.int .u8 0), 1, 1) := by kernel_rfl
abbrev BuiltF (B b : Nat) (bs : List Value) (w : World) : Prop := Lib.IsBuilderF 77 5 B b bs w

theorem built_below {B b : Nat} {bs : List Value} {w w' : World} (h : BuiltF B b bs w) (hb : Below w.heap.size w w') : BuiltF B b bs w' := by
  have gen : ∀ p, Lib.BuilderAtF 77 5 B b p bs w → Lib.BuilderAtF 77 5 B b p bs w' := fun p h => by
    obtain ⟨hB, v, hk, hown, hne⟩ := h
    have hlt := (Array.getElem?_eq_some_iff.1 hk).1
    exact ⟨hB, v, (hb.block b hlt).trans hk, hown.kept (row := none) ⟨hb.os, hb.tape, hb.output, hb.size, fun i hi _ => hb.block i hi⟩ (by cases v.ownBlock <;> simp), hne⟩
  exact h.imp (gen _) (gen _)
theorem built_lt {B b : Nat} {bs : List Value} {w : World} (h : BuiltF B b bs w) : b < w.heap.size := by
  rcases h with h | h
  · exact h.lt
  · exact h.lt
theorem built_new {B b : Nat} {w : World} (hB : B ≤ b) (h : w.heap[b]? = some (.cells #[.pointer none, .slice none 0 0] 77 (0, 0))) : BuiltF B b [] w := .inl ⟨hB, _, h, World.ownsRowF_nil _ _ _ _, by simp [Value.ownBlock]⟩

set_option maxRecDepth 100000 in
theorem sb_used (b : Nat) (w : World) (h0 : w.cell? ⟨b, 0, none⟩ = some (.pointer (some ⟨b, 0, none⟩))) :
    Calls Tryz.prog 81 #[.pointer (some ⟨b, 0, none⟩)] w fun e w' => e = .returned (.tuple #[]) ∧ w' = w := by
  obtain ⟨j, hj, _⟩ := Option.map_eq_some_iff.1 sb_size
  go_enter Tryz.func81, Tryz.ntmps81
  go_wp2_with fail
  rw [Lib.run_neq_ptr_same w _ Tryz.underlying75 hj]
  go_wp2_with fail
  go_end0
  exact ⟨rfl, rfl⟩
set_option maxRecDepth 100000 in
theorem sb_fresh (b : Nat) (w : World) (h0 : w.cell? ⟨b, 0, none⟩ = some (.pointer none)) (hsh : w.shape? b = some (77, 2)) (hfz : w.frozen? ⟨b, 0, none⟩ = false) :
    Calls Tryz.prog 81 #[.pointer (some ⟨b, 0, none⟩)] w fun e w' => e = .returned (.tuple #[]) ∧ w' = w.setCell ⟨b, 0, none⟩ (.pointer (some ⟨b, 0, none⟩)) := by
  obtain ⟨j, hj, hjs⟩ := Option.map_eq_some_iff.1 sb_size
  go_enter Tryz.func81, Tryz.ntmps81
  go_wp2_with fail
  rw [Lib.run_to_unsafe w ⟨b, 0, none⟩ Tryz.underlying75 Tryz.underlying117 hj (by rw [hjs]; decide) hsh (Nat.zero_lt_succ 1)]
  simp only [Result.andThen]
  rw [Oper.upon_value]
  go_wp2_with fail
  rw [run_callFunc_extern Tryz.func106 (by kernel_rfl) (by kernel_rfl) (by kernel_rfl) (e := Extern.AbiNoEscape.same) (by kernel_rfl)]
  rw [Lib.run_noEscape]
  simp only [Result.andThen]
  rw [Oper.upon_value]
  go_wp2_with fail
  rw [Lib.run_from_unsafe w ⟨b, 0, none⟩ Tryz.underlying117 Tryz.underlying75 hj hsh (by kernel_rfl)]
  simp only [Result.andThen]
  rw [Oper.upon_value]
  go_wp2_with fail
  go_end0
  exact ⟨rfl, rfl⟩
theorem sb_check (B b : Nat) (bs : List Value) (w : World) (h : BuiltF B b bs w) :
    Calls Tryz.prog 81 #[.pointer (some ⟨b, 0, none⟩)] w fun e w' => e = .returned (.tuple #[]) ∧ Lib.BuilderAtF 77 5 B b (.pointer (some ⟨b, 0, none⟩)) bs w' ∧ Below B w w' := by
  rcases h with h | h
  · refine (sb_fresh b w h.cell0 h.shape h.frozen0).mono ?_
    rintro e w' ⟨rfl, rfl⟩
    exact ⟨rfl, h.used _, (Below.refl B w).setCell (p := ⟨b, 0, none⟩) h.1 _⟩
  · refine (sb_used b w h.cell0).mono ?_
    rintro e w' ⟨rfl, rfl⟩
    exact ⟨rfl, h, Below.refl B _⟩

set_option maxRecDepth 100000 in
set_option maxHeartbeats 2000000 in
theorem sb_byte (B b : Nat) (bs : List Value) (c : Int) (w : World) (h : BuiltF B b bs w) (hlen : bs.length + 1 ≤ 140737488355328) (hBw : B ≤ w.heap.size) :
    Calls Tryz.prog 48 #[.pointer (some ⟨b, 0, none⟩), .int .u8 c] w fun e w' => e = .returned .nilIface ∧ BuiltF B b (bs ++ [.int .u8 c]) w' ∧ Below B w w' := by
  obtain ⟨i0, hi, hz0, hz1, hz2⟩ := info_parts sb_u8
  have HC := Lib.hid (sb_check B b bs w h)
  clear h
  go_enter Tryz.func48, Tryz.ntmps48
  go_wp2_with fail
  refine HC.out.mono ?_
  rintro e w1 ⟨rfl, h1, hb1⟩
  obtain ⟨hB, v, hbk, hown, hne⟩ := h1
  have c1 : w1.cell? ⟨b, 1, none⟩ = some v := by rw [Lib.cell_of_heap hbk]; rfl
  have hbs := hb1.size
  go_wp2_with (at_builtin; refine wpList_append_ownF _ rfl _ _ 50 rfl B 5 i0 (.int .u8 0) 1 1 Tryz.underlying50 hi hz0 hz1 hz2 rfl (by decide) _ _ _ rfl (hown.alloc _) ⟨w1.heap.size, 0, none⟩ 1 1 [.int .u8 c] rfl rfl ?c1 ?c2 ?c3 ?c4 ?c5 ?_)
  case c1 =>
    intro j u hj
    match j, hj with
    | 0, hj => simp at hj; subst hj; simp [Addr.add]
  case c2 => intro u hu; simp at hu; subst hu; rfl
  case c3 => unfold maxLen; omega
  case c4 => omega
  case c5 => simp; omega
  intro v' w2 hown' hgrow _
  have hlt : b < w1.heap.size := (Array.getElem?_eq_some_iff.1 hbk).1
  have hb2 : w2.heap[b]? = some (.cells #[.pointer (some ⟨b, 0, none⟩), v] 77 (0, 0)) := by
    rw [hgrow.block b (by simp; omega) (fun e => hne e.symm), Lib.alloc_old w1 _ b hlt]
    exact hbk
  have d1 : w2.cell? ⟨b, 1, none⟩ = some v := by rw [Lib.cell_of_heap hb2]; rfl
  have f1 : w2.frozen? ⟨b, 1, none⟩ = false := Lib.frozen_of_heap hb2 1
  obtain ⟨g, cap, rfl⟩ : ∃ g cap, v' = .slice (some ⟨g, 0, none⟩) (bs.length + 1) cap := by
    rcases hown'.2 with ⟨_, h0⟩ | ⟨g, cap, cur, fz, hv, _⟩
    · omega
    · exact ⟨g, cap, hv⟩
  clear c1
  go_wp2_with fail
  go_ret
  exact ⟨rfl, .inr (Lib.BuilderAtF.put (T := 77) (e := 5) hB hb2 (bs' := bs ++ [.int .u8 c]) (by simpa using hown') (by decide)), ((hb1.alloc (by omega) _).grown hgrow (by simp; omega) (fun k hk => (hown.lt k hk).1)).setCell (p := ⟨b, 1, none⟩) hB _⟩

set_option maxRecDepth 100000 in
set_option maxHeartbeats 2000000 in
theorem sb_string (B b : Nat) (bs : List Value) (s : ByteArray) (w : World) (h : BuiltF B b bs w) (hlen : bs.length + s.size ≤ 140737488355328) (hBw : B ≤ w.heap.size) :
    Calls Tryz.prog 46 #[.pointer (some ⟨b, 0, none⟩), .string s] w fun e w' => e = .returned (.tuple #[.int .i64 s.size, .nilIface]) ∧ BuiltF B b (bs ++ Lib.strCells s) w' ∧ Below B w w' := by
  obtain ⟨i0, hi, hz0, hz1, hz2⟩ := info_parts sb_u8
  have HC := Lib.hid (sb_check B b bs w h)
  clear h
  go_enter Tryz.func46, Tryz.ntmps46
  go_wp2_with fail
  refine HC.out.mono ?_
  rintro e w1 ⟨rfl, h1, hb1⟩
  obtain ⟨hB, v, hbk, hown, hne⟩ := h1
  have c1 : w1.cell? ⟨b, 1, none⟩ = some v := by rw [Lib.cell_of_heap hbk]; rfl
  have hbs := hb1.size
  go_wp2_with (at_builtin; refine Lib.wpList_append_own_stringF _ rfl _ _ 50 9 rfl B 5 i0 Tryz.underlying50 Tryz.underlying9 hi hz0 hz1 hz2 _ _ _ rfl hown s rfl ?c3 ?c4 ?c5 ?_)
  case c3 => unfold maxLen; omega
  case c4 => omega
  case c5 => omega
  intro v' w2 hown' hgrow _
  have hlt : b < w1.heap.size := (Array.getElem?_eq_some_iff.1 hbk).1
  have hb2 : w2.heap[b]? = some (.cells #[.pointer (some ⟨b, 0, none⟩), v] 77 (0, 0)) := by
    rw [hgrow.block b hlt (fun e => hne e.symm)]
    exact hbk
  have d1 : w2.cell? ⟨b, 1, none⟩ = some v := by rw [Lib.cell_of_heap hb2]; rfl
  have f1 : w2.frozen? ⟨b, 1, none⟩ = false := Lib.frozen_of_heap hb2 1
  obtain ⟨ao, n', cap, rfl⟩ : ∃ ao n' cap, v' = .slice ao n' cap := by
    rcases hown'.2 with ⟨hv, _⟩ | ⟨g, cap, cur, fz, hv, _⟩
    · exact ⟨_, _, _, hv⟩
    · exact ⟨_, _, _, hv⟩
  clear c1
  go_wp2_with fail
  go_ret2
  exact ⟨rfl, .inr (Lib.BuilderAtF.put (T := 77) (e := 5) hB hb2 (bs' := bs ++ Lib.strCells s) (by simpa [Lib.strCells_length] using hown') (by decide)), (hb1.grown hgrow (by omega) (fun k hk => (hown.lt k hk).1)).setCell (p := ⟨b, 1, none⟩) hB _⟩
end Go.Proofs.YtkihgbggndikpaaGreatDoor
namespace Go.Proofs.YtkihgbggndikpaaGreatDoor
open Go Go.RowKit Go.Shelf Go.Proofs
attribute [local go_sem] Oper.semAt_some

theorem wp_growS {o : Oper} {a : Act} {w : World} {K : Act → World → Prop} {Q : Exit → Act → World → Prop} (s x : Operand) (n : Nat) (h0 : 0 < n) (hn : n ≤ 1000000)
    (ho : o.op = .call { callee := .builtin .append, args := #[s, x], argTypes := #[39, 3] }) (hs : a.eval s = .slice none 0 0) (hx : a.eval x = .int .i64 n)
    (h : ∀ cp w', n ≤ cp → cp ≤ maxLen → w'.ownsRow w.heap.size 9 1 (.slice (some ⟨w.heap.size, 0, none⟩) 0 cp) 0 (strVs []) → Below w.heap.size w w' → K (a.put o.dst (.slice (some ⟨w.heap.size, 0, none⟩) n cp)) w') : Oper.wp Tryz.prog o a w K Q := by
  obtain ⟨i0, hi, hz0, hz1, hz2⟩ := info_parts string_info
  have hr := Lib.run_append_grow_zeros (P := Tryz.prog) w 39 3 o.type 9 i0 (.string ⟨#[]⟩) .i64 .i64 Tryz.underlying39 Tryz.underlying3 hi hz0 none 0 0 [] (by simp [Builtin.firstCells]) n h0 (by omega) (by omega) (by omega) (by rw [hz2]; omega) (by rw [hz2]; unfold Builtin.nextslicecap; rw [if_pos (by omega)]; omega)
  have hg := grownCap_ge w (0 + n) 0 9
  have hm := grownCap_le_maxLen w (0 + n) 0 9 (by unfold maxLen; omega)
  generalize grownCap w (0 + n) 0 9 = cp at *
  unfold Oper.wp execOp
  simp only [ho, resolve, invoke, builtin, Sem.run_bind, Sem.run_pure, Result.andThen_ok, List.map_toArray, List.map_cons, List.map_nil, hs, hx, hr]
  rw [Nat.zero_add]
  refine h cp _ (by omega) hm (World.ownsRow_made w.drew _ cp (Nat.le_refl _) hm ?_) ((Below.refl _ w).drew.alloc (by simp) _)
  simp [size_zeroCells, Value.cells]
  omega
theorem wpList_growS {ops : Array Oper} {rest : List Oper} {o : Oper} {a : Act} {w : World} {Q : Exit → Act → World → Prop} (hgd : o.guard = none) (s x : Operand) (n : Nat) (h0 : 0 < n) (hn : n ≤ 1000000)
    (ho : o.op = .call { callee := .builtin .append, args := #[s, x], argTypes := #[39, 3] }) (hs : a.eval s = .slice none 0 0) (hx : a.eval x = .int .i64 n)
    (h : ∀ cp w', n ≤ cp → cp ≤ maxLen → w'.ownsRow w.heap.size 9 1 (.slice (some ⟨w.heap.size, 0, none⟩) 0 cp) 0 (strVs []) → Below w.heap.size w w' → wpList Tryz.prog ops Q rest (a.put o.dst (.slice (some ⟨w.heap.size, 0, none⟩) n cp)) w') : wpList Tryz.prog ops Q (o :: rest) a w :=
  wpList_plain hgd fun _ hK => wp_growS s x n h0 hn ho hs hx fun cp w' h1 h2 h3 h4 => hK _ _ (h cp w' h1 h2 h3 h4)

set_option maxHeartbeats 2000000 in
theorem growS_any (n : Nat) (h0 : 0 < n) (hn : n ≤ 1000000) (w : World) :
    Calls Tryz.prog 83 #[.slice none 0 0, .int .i64 n] w fun e w' => ∃ v, e = .returned v ∧ w'.ownsRow w.heap.size 9 1 v 0 (strVs []) ∧ Below w.heap.size w w' := by
  have q0 : ((n : Int) < 0) = False := eq_false (by omega)
  have q1 : (0 : Int) < (n : Int) := by omega
  go_enter Tryz.func83, Tryz.ntmps83
  go_wp2_with (at_builtin; refine wpList_growS rfl _ _ n h0 hn rfl rfl rfl ?_; intro cp w1 hc1 hc2 hown hb)
  have q2 : (0 : Int) ≤ (cp : Int) := by omega
  go_wp2_with fail
  go_ret
  exact ⟨_, rfl, hown, hb⟩

/-- A row of texts, as it lies in a row of such. -/
structure RX where
  A : Option Addr
  c : Nat
  l : List Bs
instance : Inhabited RX := ⟨⟨none, 0, []⟩⟩
def catS (L : List RX) (k : Nat) : List Bs := ((L.take k).map RX.l).flatten
theorem catS_next {L : List RX} {k : Nat} {x : RX} (hx : L[k]? = some x) : catS L (k + 1) = catS L k ++ x.l := by
  unfold catS
  rw [List.take_add_one, hx, List.map_append, List.flatten_append]
  simp
theorem catS_le (L : List RX) (k : Nat) : (catS L k).length ≤ (catS L L.length).length := by
  unfold catS
  rw [List.take_length]
  conv => rhs; rw [← List.take_append_drop k L]
  rw [List.map_append, List.flatten_append, List.length_append]
  omega
set_option maxHeartbeats 4000000 in
theorem concatS_any (L : List RX) (g o c : Nat) (w : World) (hr : ∀ j x, L[j]? = some x → w.cell? ⟨g, o + j, none⟩ = some (.slice x.A x.l.length x.c)) (hg : g < w.heap.size) (hs : ∀ x ∈ L, StrsAt w x.A x.l) (hL : L.length ≤ 1000) (h0 : 0 < (catS L L.length).length) (hl : (catS L L.length).length ≤ 1000000) :
    Calls Tryz.prog 49 #[.slice (some ⟨g, o, none⟩) L.length c] w fun e w' => ∃ A c', e = .returned (.slice A (catS L L.length).length c') ∧ StrsAt w' A (catS L L.length) ∧ (catS L L.length).length ≤ c' ∧ c' ≤ maxLen ∧ Below w.heap.size w w' := by
  have hle := catS_le L
  have HR := Lib.hid hr; clear hr
  have HS := Lib.hid hs; clear hs
  have HLE := Lib.hid hle; clear hle
  obtain ⟨T, hT⟩ : ∃ T, catS L L.length = T := ⟨_, rfl⟩
  have HT := Lib.hid hT
  rw [hT] at h0 hl HLE ⊢
  clear hT
  have HG := Lib.hid (growS_any T.length h0 hl)
  go_enter Tryz.func49, Tryz.ntmps49
  go_wp2_with fail
  go_loopw [3, 11] (fun v i wr => ∃ (k : Nat), k ≤ L.length ∧ v = .int .i64 (catS L k).length ∧ i = .int .i64 k ∧ wr = w) (fun _ i _ => L.length - (intOf i).toNat)
  case atStart => exact ⟨0, Nat.zero_le _, rfl, rfl, by trivial⟩
  case round =>
    obtain ⟨k, hk, rfl, rfl, hw⟩ := hrel
    have hw := hw.symm
    subst hw
    by_cases h1 : k < L.length
    · obtain ⟨x, hx⟩ : ∃ x, L[k]? = some x := ⟨_, List.getElem?_eq_getElem h1⟩
      have c1 := HR.out k x hx
      have k1 : (k : Int) < (L.length : Int) := by omega
      have hn := catS_next hx
      have hle := HLE.out (k + 1)
      have e1 : (catS L (k + 1)).length = (catS L k).length + x.l.length := by rw [hn, List.length_append]
      have HE := Lib.hid e1
      rw [e1] at hle
      generalize (catS L k).length = V at *
      generalize T.length = M at *
      have q0 : ((V : Int) + (x.l.length : Int) < 0) = False := eq_false (by omega)
      clear hn hx e1 HG
      go_wp2_with fail
      go_roundw
      case rel => exact ⟨k + 1, by omega, by rw [HE.out]; go_num, by go_num, by trivial⟩
      case measure => simp [intOf]; omega
    · obtain rfl : k = L.length := by omega
      have HG1 := Lib.hid (HG.out w)
      clear HG
      rw [HT.out]
      go_wp2_with fail
      refine HG1.out.mono ?_
      clear HG1
      rintro e w1 ⟨v1, rfl, hown1, hb1⟩
      go_wp2_with fail
      go_loopw [6, 8, 27] (fun v f i wr => ∃ (k : Nat), k ≤ L.length ∧ i = .int .i64 k ∧ Hid (wr.ownsRow w.heap.size 9 1 v (catS L k).length (strVs (catS L k))) ∧ Below w.heap.size w wr) (fun _ _ i _ => L.length - (intOf i).toNat)
      case atStart => exact ⟨0, Nat.zero_le _, rfl, hown1, hb1⟩
      case round =>
        clear hown1 hb1
        obtain ⟨k, hk, rfl, HO, hbr⟩ := hrel
        by_cases h2 : k < L.length
        · obtain ⟨x, hx⟩ : ∃ x, L[k]? = some x := ⟨_, List.getElem?_eq_getElem h2⟩
          have c1 := (hbr.cell (p := ⟨g, o + k, none⟩) hg).trans (HR.out k x hx)
          have k1 : (k : Int) < (L.length : Int) := by omega
          have hn := catS_next hx
          have hle := HLE.out (k + 1)
          have HX := Lib.hid ((HS.out x (List.mem_of_getElem? hx)).below hbr)
          rw [hn, List.length_append] at hle
          have HNX := Lib.hid hn
          have hlen : (catS L k).length + x.l.length ≤ 2000000000000 := by omega
          have hsz := hbr.size
          obtain ⟨xl, hxl⟩ : ∃ xl, x.l.length = xl := ⟨_, rfl⟩
          rw [hxl] at c1 hle
          have HXL := Lib.hid hxl
          clear hx hn hxl
          go_wp2_with (at_builtin; refine wpList_append_strs rfl _ _ rfl w.heap.size _ (catS L k) x.l _ _ xl _ rfl HXL.out rfl HO.out rfl HX.out hlen hsz ?_; intro v2 w2 hown2 hgrow2)
          have hb2 := hbr.trans (below_grow HO.out hgrow2 hsz)
          rw [← HXL.out, ← List.length_append, ← HNX.out] at hown2
          go_wp2_with fail
          go_roundw
          case rel => exact ⟨k + 1, by omega, by go_num, hown2, hb2⟩
          case measure => simp [intOf]; omega
        · obtain rfl : k = L.length := by omega
          have hO := HO.out
          rw [HT.out] at hO
          obtain ⟨A2, c2, hv2, hst, hc2, hm2⟩ := strsT_own hO rfl
          subst hv2
          go_wp2_with fail
          go_ret
          exact ⟨A2, c2, rfl, hst.at_, hc2, hm2, hbr⟩

/-- Texts, joined by a blank. -/
def joinS : List Bs → Bs
  | [] => []
  | x :: r => x ++ r.flatMap (fun n => 32 :: n)
theorem joinS_lib (l : List Bs) : Lib.join l [32] = joinS l := by
  cases l with
  | nil => rfl
  | cons x r =>
    rw [Lib.join_cons]
    unfold joinS
    congr 1
theorem joinS_any (l : List Bs) (A : Option Addr) (c : Nat) (w : World) (h : StrsAt w A l) (hc : l.length ≤ c) (hl : l.length ≤ 1000000) (hj : (joinS l).length ≤ 1000000000) :
    Calls Tryz.prog 47 #[.slice A l.length c, .string ⟨#[32]⟩] w fun e w' => e = .returned (.string (mkB (joinS l))) ∧ Below w.heap.size w w' := by
  cases l with
  | nil =>
    refine (Tryz.strings_Join_none A c ⟨#[32]⟩ w).mono ?_
    rintro e w' ⟨rfl, rfl⟩
    exact ⟨rfl, Below.refl _ _⟩
  | cons x r =>
    obtain ⟨g, o, rfl, hcl⟩ := h (by simp)
    have hg : g < w.heap.size := World.block_lt_of_cell? w (a := ⟨g, o + 0, none⟩) (hcl 0 x rfl)
    have e1 : ((x :: r).map mkB).map (·.data.toList) = x :: r := by
      rw [List.map_map]
      conv => rhs; rw [← List.map_id (x :: r)]
      exact List.map_congr_left fun y _ => mkB_data y
    have h1 := Tryz.strings_Join g o c ((x :: r).map mkB) ⟨#[32]⟩ w (fun j y hy => by
      rw [List.getElem?_map] at hy
      obtain ⟨z, hz, rfl⟩ := Option.map_eq_some_iff.1 hy
      exact hcl j z hz) hg (by rw [List.length_map]; omega) (by rw [List.length_map]; exact hc) (by rw [e1]; show (Lib.join _ [32]).length ≤ _; rw [joinS_lib]; omega)
    rw [e1, List.length_map] at h1
    refine h1.mono ?_
    rintro e w' ⟨rfl, hb⟩
    refine ⟨?_, hb⟩
    show Ending.returned (.string ⟨(Lib.join _ [32]).toArray⟩) = _
    rw [joinS_lib]; rfl

set_option maxHeartbeats 2000000 in
/-- A line of words, written. -/
theorem oline_any (B b : Nat) (t : Bs) (l : List Bs) (A : Option Addr) (c : Nat) (w : World) (hb : BuiltF B b (Lib.byteCells t) w) (hB : B ≤ w.heap.size) (h : StrsAt w A l) (hc : l.length ≤ c) (hl : l.length ≤ 1000000) (ht : t.length ≤ 1000000000) (hj : (joinS l).length ≤ 1000000000) :
    Calls Tryz.prog 45 #[.slice A l.length c, .pointer (some ⟨b, 0, none⟩)] w fun e w' => e = .returned (.tuple #[]) ∧ BuiltF B b (Lib.byteCells (t ++ (joinS l ++ [10]))) w' ∧ Below B w w' := by
  have HJ := Lib.hid (joinS_any l A c w h hc hl hj)
  have HB := Lib.hid hb
  obtain ⟨J, hJ⟩ : ∃ J, joinS l = J := ⟨_, rfl⟩
  rw [hJ] at HJ hj ⊢
  clear h hJ hb
  go_enter Tryz.func45, Tryz.ntmps45
  go_wp2_with fail
  refine HJ.out.mono ?_
  rintro e w1 ⟨rfl, hb1⟩
  have hB1 : Below B w w1 := hb1.mono hB
  have HB1 : Hid (BuiltF B b (Lib.byteCells t) w1) := Lib.hid (built_below HB.out hb1)
  have HS := Lib.hid (sb_string B b (Lib.byteCells t) (mkB J) w1 HB1.out (by rw [Lib.byteCells_length, mkB_size]; omega) (Nat.le_trans hB hb1.size))
  go_wp2_with fail
  refine HS.out.mono ?_
  rintro e w2 ⟨rfl, hbu2, hb2⟩
  have hs2 := hb2.size
  have HY := Lib.hid (sb_byte B b _ 10 w2 hbu2 (by rw [List.length_append, Lib.byteCells_length, Lib.strCells_length, mkB_size]; omega) (by have := hb1.size; omega))
  clear hbu2
  go_wp2_with fail
  refine HY.out.mono ?_
  rintro e w3 ⟨rfl, hbu3, hb3⟩
  go_wp2_with fail
  go_end0
  refine ⟨rfl, ?_, (hB1.trans (hb2.mono (Nat.le_refl _))).trans (hb3.mono (Nat.le_refl _))⟩
  rw [Lib.byteCells_append, Lib.byteCells_append, ← List.append_assoc]
  rw [Lib.strCells_eq, mkB_data] at hbu3
  exact hbu3
end Go.Proofs.YtkihgbggndikpaaGreatDoor
namespace Go.Proofs.YtkihgbggndikpaaGreatDoor
open Go Go.RowKit Go.Shelf Go.Proofs
attribute [local go_sem] Oper.semAt_some

theorem flat_le (f : Bs → Bs) (hf : ∀ n, 0 < (f n).length) : ∀ l : List Bs, l.length ≤ (l.flatMap f).length
  | [] => Nat.zero_le _
  | n :: r => by
    have h1 := hf n
    have ih := flat_le f hf r
    rw [List.flatMap_cons, List.length_append, List.length_cons]
    omega
theorem ns_glob (g : Bs) (ns : List Bs) (h : g.isEmpty = false) : ns.length + 9 ≤ (lineP (g, ns)).length := by
  obtain ⟨F, hF⟩ : ∃ F, ns.flatMap (fun n : Bs => (32 : UInt8) :: n) = F := ⟨_, rfl⟩
  have h1 : ns.length ≤ F.length := by rw [← hF]; exact flat_le _ (fun n => by simp) ns
  have e : lineP (g, ns) = perW ++ 32 :: g ++ F ++ [10] := by
    rw [← hF]; unfold lineP; rw [h, if_neg (by simp)]
  have h8 : perW.length = 8 := rfl
  rw [e, List.length_append, List.length_append, List.length_append, List.length_cons, List.length_singleton]
  omega
theorem line_glob (g : Bs) (ns : List Bs) (h : g.isEmpty = false) : joinS (perW :: g :: ns) ++ [10] = lineP (g, ns) := by
  unfold lineP
  show perW ++ ((32 :: g) ++ ns.flatMap (fun n => 32 :: n)) ++ [10] = _
  rw [h, if_neg (by simp)]
  simp
theorem line_name (n : Bs) : joinS [n] ++ [10] = n ++ [10] := by unfold joinS; simp
def prefO (o : Ow) (k : Nat) : Bs := printO (o.1, o.2.take k)
theorem prefO_next {o : Ow} {k : Nat} {x : Ln} (h : o.2[k]? = some x) : prefO o (k + 1) = prefO o k ++ lineP x := by
  unfold prefO printO
  simp only
  rw [List.take_add_one, h, List.flatMap_append]
  simp
theorem prefO_le (o : Ow) (k : Nat) : (prefO o k).length ≤ (printO o).length := by
  unfold prefO printO
  simp only
  conv => rhs; rw [← List.take_append_drop k o.2]
  rw [List.flatMap_append]
  simp only [List.length_append]; omega
theorem prefO_all (o : Ow) : prefO o o.2.length = printO o := by unfold prefO; rw [List.take_length]
/-- Behind the first k names of a line without a glob. -/
def namesP (l : List Bs) (k : Nat) : Bs := (l.take k).flatMap (fun n => n ++ [10])
theorem namesP_next {l : List Bs} {k : Nat} {n : Bs} (h : l[k]? = some n) : namesP l (k + 1) = namesP l k ++ (n ++ [10]) := by
  unfold namesP
  rw [List.take_add_one, h, List.flatMap_append]
  simp
theorem namesP_le (l : List Bs) (k : Nat) : (namesP l k).length ≤ (l.flatMap (fun n => n ++ [10])).length := by
  unfold namesP
  conv => rhs; rw [← List.take_append_drop k l]
  rw [List.flatMap_append, List.length_append]; omega
theorem namesP_all (l : List Bs) : namesP l l.length = l.flatMap (fun n => n ++ [10]) := by unfold namesP; rw [List.take_length]
theorem texts2 (w : World) (a b : ByteArray) : StrsAt (w.alloc (.cells #[.string a, .string b] 9)) (some ⟨w.heap.size, 0, none⟩) [a.data.toList, b.data.toList] := fun _ => ⟨_, 0, rfl, fun i p hp => by
  match i, hp with
  | 0, hp => cases hp; rw [data_mkB]; exact cell_of_row _ _ 0 _ _ _ (heap_alloc_new w _)
  | 1, hp => cases hp; rw [data_mkB]; exact cell_of_row _ _ 1 _ _ _ (heap_alloc_new w _)
  | i + 2, hp => simp at hp⟩

set_option maxRecDepth 100000 in
set_option maxHeartbeats 8000000 in
theorem oprint_any (np : Bool) (A : Option Addr) (c : Nat) (L : List LX) (w : World) (h : LinesAt w A c L) (hz : (printO (np, lnsX L)).length ≤ 1000000) :
    Calls Tryz.prog 18 #[owV np A L.length c] w fun e w' => e = .returned (.string (mkB (printO (np, lnsX L)))) ∧ Below w.heap.size w w' := by
  have HH := Lib.hid h
  obtain ⟨B, hB⟩ : ∃ B, w.heap.size = B := ⟨_, rfl⟩
  have hall := prefO_all (np, lnsX L)
  simp only [lnsX_length] at hall
  have hpl := prefO_le (np, lnsX L)
  obtain ⟨T, hT⟩ : ∃ T, printO (np, lnsX L) = T := ⟨_, rfl⟩
  rw [hT] at hz hall hpl ⊢
  have HALL := Lib.hid hall
  have HPL := Lib.hid hpl
  have HB := Lib.hid hB
  obtain ⟨W1, hW1⟩ : ∃ W1, w.alloc (.cells #[.bool np, .slice A L.length c] 24) = W1 := ⟨_, rfl⟩
  obtain ⟨W2, hW2⟩ : ∃ W2, W1.alloc (.cells #[.pointer none, .slice none 0 0] 77) = W2 := ⟨_, rfl⟩
  have s1 : W1.heap.size = B + 1 := by rw [← hW1, World.size_alloc, hB]
  have s2 : W2.heap.size = B + 1 + 1 := by rw [← hW2, World.size_alloc, s1]
  have hn2 : W2.heap[B + 1]? = some (.cells #[.pointer none, .slice none 0 0] 77 (0, 0)) := by
    have := heap_alloc_new W1 (.cells #[.pointer none, .slice none 0 0] 77)
    rw [hW2, s1] at this; exact this
  have hn1 : W2.cell? ⟨B, 1, none⟩ = some (.slice A L.length c) := by
    have h1 := heap_alloc_new w (.cells #[.bool np, .slice A L.length c] 24)
    rw [hW1, hB] at h1
    have h2 : Below W1.heap.size W1 W2 := by rw [← hW2]; exact (Below.refl _ _).alloc (Nat.le_refl _) _
    exact cell_of_row _ B 1 _ _ _ ((h2.block B (by omega)).trans h1)
  have C01 := Lib.hid hn1
  have HBN : Hid (BuiltF (B + 1) (B + 1) [] W2) := built_new (Nat.le_refl _) hn2
  have hb2 : Below B w W2 := by rw [← hW2, ← hW1]; exact (((Below.refl B w).alloc (by omega) _).alloc (by rw [World.size_alloc]; omega) _)
  have HB2 := Lib.hid hb2
  have hLc : L.length ≤ maxLen := Nat.le_trans h.cap h.capm
  unfold maxLen at hLc
  have HW1 := Lib.hid hW1
  have HW2 := Lib.hid hW2
  clear h hT hall hpl hn2 hb2 hn1 hW1 hW2 s1
  unfold owV
  go_enter Tryz.func18, Tryz.ntmps18
  rw [hB]
  cases np with
  | false =>
    go_wp2_with fail
    rw [HW1.out, HW2.out]
    clear HW1 HW2
    go_loopw [6, 8, 18, 37] (fun v6 v8 i v37 wr => ∃ k : Nat, k ≤ L.length ∧ i = .int .i64 k ∧ Hid (BuiltF (B + 1) (B + 1) (Lib.byteCells (prefO (false, lnsX L) k)) wr) ∧ Below B w wr) (fun _ _ i _ _ => L.length - (intOf i).toNat)
    case atStart => exact ⟨0, Nat.zero_le _, rfl, HBN.out, HB2.out⟩
    case round =>
      obtain ⟨k, hk, rfl, HBU, hbr⟩ := hrel
      have hsz := hbr.size
      have hlt := built_lt HBU.out
      by_cases h1 : k < L.length
      · obtain ⟨x, hx⟩ : ∃ x, L[k]? = some x := ⟨_, List.getElem?_eq_getElem h1⟩
        obtain ⟨g, o, rfl, hr⟩ := HH.out.row (by omega)
        obtain ⟨r1, r2⟩ := hr k x hx
        obtain ⟨hs0, hc0, hm0⟩ := HH.out.own x (List.mem_of_getElem? hx)
        have hgl : g < w.heap.size := World.block_lt_of_cell? w (a := ⟨g, o + k * 2, none⟩) r1
        have hbw : Below w.heap.size w wr := by rw [HB.out]; exact hbr
        have c1 := (hbw.cell (p := ⟨g, o + k * 2, none⟩) hgl).trans r1
        have c2 := (hbw.cell (p := ⟨g, o + k * 2 + 1, none⟩) hgl).trans r2
        have k1 : (k : Int) < (L.length : Int) := by omega
        have hln : (lnsX L)[k]? = some x.ln := by rw [lnsX_getElem?, hx]; rfl
        obtain ⟨xg, xA, xc, xns⟩ := x
        simp only at c1 c2 hs0 hc0 hm0
        unfold maxLen at hm0
        have hnx := prefO_next (o := (false, lnsX L)) (k := k) (x := (xg.data.toList, xns)) hln
        have hT1 := HPL.out (k + 1)
        rw [hnx, List.length_append] at hT1
        have HNX := Lib.hid hnx
        have HS0 := Lib.hid hs0
        clear hx hr r1 r2 hln hnx hs0
        cases hg0 : xg.toList.isEmpty with
        | true =>
          have hlp : lineP (xg.data.toList, xns) = xns.flatMap (fun n => n ++ [10]) := by
            unfold lineP; rw [← ByteArray.toList_eq, hg0, if_pos rfl]
          rw [hlp] at hT1 HNX
          have HG0 := Lib.hid hg0
          clear hlp
          go_wp2_with fail
          clear c1 c2 hg0
          obtain ⟨wc, hwc⟩ : ∃ wc, wc = wr := ⟨_, rfl⟩
          subst hwc
          go_loopw [8, 37] (fun v8 j wr => ∃ m : Nat, m ≤ xns.length ∧ j = .int .i64 m ∧ Hid (BuiltF (B + 1) (B + 1) (Lib.byteCells (prefO (false, lnsX L) k ++ namesP xns m)) wr) ∧ Below B w wr) (fun _ j _ => xns.length - (intOf j).toNat)
          case atStart => exact ⟨0, Nat.zero_le _, rfl, by unfold Hid; rw [show namesP xns 0 = [] from rfl, List.append_nil]; exact built_below HBU.out ((Below.refl _ _).alloc (Nat.le_refl _) _), hbr.alloc (by omega) _⟩
          case round =>
            obtain ⟨m, hm, rfl, HBU2, hbr2⟩ := hrel
            have hsz2 := hbr2.size
            have hlt2 := built_lt HBU2.out
            by_cases h2 : m < xns.length
            · obtain ⟨n, hn⟩ : ∃ n, xns[m]? = some n := ⟨_, List.getElem?_eq_getElem h2⟩
              obtain ⟨g2, o2, hA2, hc2⟩ := HS0.out (by omega)
              subst hA2
              have r3 := hc2 m n hn
              have hgl2 : g2 < w.heap.size := World.block_lt_of_cell? w (a := ⟨g2, o2 + m, none⟩) r3
              have hbw2 : Below w.heap.size w wr := by rw [HB.out]; exact hbr2
              have c3 := (hbw2.cell (p := ⟨g2, o2 + m, none⟩) hgl2).trans r3
              have k2 : (m : Int) < (xns.length : Int) := by omega
              have hnm := namesP_next hn
              have hle := namesP_le xns (m + 1)
              rw [hnm, List.length_append, List.length_append, List.length_singleton] at hle
              have HNM := Lib.hid hnm
              have hone := one_at wr (mkB n)
              rw [mkB_data] at hone
              have hba : Below wr.heap.size wr (wr.alloc (.cells #[.string (mkB n)] 9)) := (Below.refl _ _).alloc (Nat.le_refl _) _
              have hj1 : joinS [n] = n := by unfold joinS; simp
              have HL := oline_any (B + 1) (B + 1) (prefO (false, lnsX L) k ++ namesP xns m) [n] (some ⟨wr.heap.size, 0, none⟩) 1 (wr.alloc (.cells #[.string (mkB n)] 9)) (built_below HBU2.out hba) (by have := hba.size; omega) hone (Nat.le_refl _) (by show (1 : Nat) ≤ 1000000; decide) (by rw [List.length_append]; omega) (by rw [hj1]; omega)
              rw [line_name] at HL
              have HLL := Lib.hid HL
              clear hn hc2 r3 hnm hone HL hj1
              go_wp2_with fail
              refine HLL.out.mono ?_
              rintro e w3 ⟨rfl, hbu3, hb3⟩
              have hB3 := (hbr2.alloc (o := .cells #[.string (mkB n)] 9) (by omega)).trans (hb3.mono (Nat.le_succ B))
              rw [List.append_assoc, ← HNM.out] at hbu3
              go_wp2_with fail
              go_roundw
              case rel => exact ⟨m + 1, by omega, by go_num, hbu3, hB3⟩
              case measure => simp [intOf]; omega
            · obtain rfl : m = xns.length := by omega
              go_wp2_with fail
              go_roundw
              case rel => exact ⟨k + 1, by omega, by go_num, by unfold Hid; rw [HNX.out, ← namesP_all]; exact HBU2.out, hbr2⟩
              case measure => simp [intOf]; omega
        | false =>
          have hlp : joinS (perW :: xg.data.toList :: xns) ++ [10] = lineP (xg.data.toList, xns) := line_glob _ _ (by rw [← ByteArray.toList_eq]; exact hg0)
          have hnl := ns_glob xg.data.toList xns (by rw [← ByteArray.toList_eq]; exact hg0)
          have HLP := Lib.hid hlp
          obtain ⟨W1, hW1⟩ : ∃ W1, wr.alloc (.cells #[.string xg, .slice xA xns.length xc] 62) = W1 := ⟨_, rfl⟩
          obtain ⟨W2, hW2⟩ : ∃ W2, W1.alloc (.cells #[.string ⟨#[112, 101, 114, 45, 102, 105, 108, 101]⟩, .string xg] 9) = W2 := ⟨_, rfl⟩
          obtain ⟨W3, hW3⟩ : ∃ W3, W2.alloc (.cells #[.slice (some ⟨wr.heap.size + 1, 0, none⟩) 2 2, .slice xA xns.length xc] 39) = W3 := ⟨_, rfl⟩
          have hs1 : W1.heap.size = wr.heap.size + 1 := by rw [← hW1]; exact World.size_alloc _ _
          have hs2 : W2.heap.size = wr.heap.size + 1 + 1 := by rw [← hW2, World.size_alloc, hs1]
          have b1 : Below wr.heap.size wr W1 := by rw [← hW1]; exact (Below.refl _ _).alloc (Nat.le_refl _) _
          have b2 : Below W1.heap.size W1 W2 := by rw [← hW2]; exact (Below.refl _ _).alloc (Nat.le_refl _) _
          have b3 : Below W2.heap.size W2 W3 := by rw [← hW3]; exact (Below.refl _ _).alloc (Nat.le_refl _) _
          have b12 : Below wr.heap.size wr W2 := b1.trans (b2.mono b1.size)
          have b13 : Below wr.heap.size wr W3 := b12.trans (b3.mono b12.size)
          have t2 := texts2 W1 ⟨#[112, 101, 114, 45, 102, 105, 108, 101]⟩ xg
          rw [hW2, hs1] at t2
          have n3 := heap_alloc_new W2 (.cells #[.slice (some ⟨wr.heap.size + 1, 0, none⟩) 2 2, .slice xA xns.length xc] 39)
          rw [hW3, hs2] at n3
          have hx3 : StrsAt W3 xA xns := ((HS0.out.below (by rw [HB.out]; exact hbr : Below w.heap.size w wr)).below b13)
          have HC := concatS_any [⟨some ⟨wr.heap.size + 1, 0, none⟩, 2, [perW, xg.data.toList]⟩, ⟨xA, xc, xns⟩] (wr.heap.size + 1 + 1) 0 2 W3 (fun j y hy => by
            match j, hy with
            | 0, hy => cases hy; exact cell_of_row _ _ 0 _ _ _ n3
            | 1, hy => cases hy; exact cell_of_row _ _ 1 _ _ _ n3
            | j + 2, hy => simp at hy) (Array.getElem?_eq_some_iff.1 n3).1 (fun y hy => by
            simp only [List.mem_cons, List.mem_nil_iff, or_false] at hy
            rcases hy with rfl | rfl
            · exact t2.below b3
            · exact hx3) (by show (2 : Nat) ≤ 1000; decide) (by show 0 < ([perW, xg.data.toList] ++ (xns ++ [])).length; simp) (by show ([perW, xg.data.toList] ++ (xns ++ [])).length ≤ _; rw [List.append_nil, List.length_append, List.length_cons, List.length_singleton]; omega)
          rw [show catS [⟨some ⟨wr.heap.size + 1, 0, none⟩, 2, [perW, xg.data.toList]⟩, ⟨xA, xc, xns⟩] [(⟨some ⟨wr.heap.size + 1, 0, none⟩, 2, [perW, xg.data.toList]⟩ : RX), ⟨xA, xc, xns⟩].length = perW :: xg.data.toList :: xns from by show [perW, xg.data.toList] ++ (xns ++ []) = _; rw [List.append_nil]; rfl] at HC
          simp only [List.length_cons, List.length_nil, Nat.zero_add] at HC
          have HCC := Lib.hid HC
          have B13 := Lib.hid b13
          have hT2 : (joinS (perW :: xg.data.toList :: xns)).length + 1 = (lineP (xg.data.toList, xns)).length := by rw [← hlp, List.length_append]; rfl
          have HW1 := Lib.hid hW1
          have HW2 := Lib.hid hW2
          have HW3 := Lib.hid hW3
          clear HC t2 n3 hx3 b1 b2 b3 b12 b13 hlp hW1 hW2 hW3 hs1 hs2
          go_wp2_with fail
          rw [HW1.out, HW2.out, HW3.out]
          refine HCC.out.mono ?_
          clear HW1 HW2 HW3
          rintro e w4 ⟨A4, c4, rfl, hst4, hc4, hm4, hb4⟩
          have hb04 : Below wr.heap.size wr w4 := B13.out.trans (hb4.mono B13.out.size)
          have HL := oline_any (B + 1) (B + 1) (prefO (false, lnsX L) k) (perW :: xg.data.toList :: xns) A4 c4 w4 (built_below HBU.out hb04) (by have := hb04.size; omega) hst4 hc4 (by simp only [List.length_cons]; omega) (by omega) (by omega)
          rw [HLP.out, ← HNX.out] at HL
          simp only [List.length_cons] at HL
          have HLL := Lib.hid HL
          have hB4 := hbr.trans (hb04.mono (by have := HB.out; omega))
          have HB4 := Lib.hid hB4
          clear HL hst4 hb4 hb04 hB4 c1 c2
          go_wp2_with fail
          refine HLL.out.mono ?_
          rintro e w5 ⟨rfl, hbu5, hb5⟩
          have hB5 := HB4.out.trans (hb5.mono (Nat.le_succ B))
          go_wp2_with fail
          go_roundw
          case rel => exact ⟨k + 1, by omega, by go_num, hbu5, hB5⟩
          case measure => simp [intOf]; omega
      · obtain rfl : k = L.length := by omega
        have hbu := HBU.out
        rw [HALL.out] at hbu
        have HST := Lib.hid (Tryz.Builder_String_any_k (B + 1) (B + 1) T wr hbu (by omega))
        clear hbu
        go_wp2_with fail
        refine HST.out.mono ?_
        rintro e w9 ⟨rfl, _, hb9, _⟩
        go_wp2_with fail
        go_ret
        exact ⟨rfl, hbr.trans (hb9.mono (Nat.le_succ B))⟩
  | true =>
    have t3 := texts2 W2 ⟨#[115, 101, 116]⟩ ⟨#[110, 111, 112, 97, 114, 101, 110, 116]⟩
    rw [s2] at t3
    have b3 : Below W2.heap.size W2 (W2.alloc (.cells #[.string ⟨#[115, 101, 116]⟩, .string ⟨#[110, 111, 112, 97, 114, 101, 110, 116]⟩] 9)) := (Below.refl _ _).alloc (Nat.le_refl _) _
    have HL := oline_any (B + 1) (B + 1) [] [setW, nopW] (some ⟨B + 1 + 1, 0, none⟩) 2 (W2.alloc (.cells #[.string ⟨#[115, 101, 116]⟩, .string ⟨#[110, 111, 112, 97, 114, 101, 110, 116]⟩] 9)) (built_below HBN.out b3) (by have := b3.size; omega) t3 (Nat.le_refl _) (by show (2 : Nat) ≤ 1000000; decide) (by decide) (by decide)
    rw [show ([] : Bs) ++ (joinS [setW, nopW] ++ [10]) = prefO (true, lnsX L) 0 from rfl] at HL
    simp only [List.length_cons, List.length_nil, Nat.zero_add] at HL
    have HLL := Lib.hid HL
    have HB3 := Lib.hid (HB2.out.trans (b3.mono (by omega)))
    have B3 := Lib.hid b3
    clear HL t3 b3
    go_wp2_with fail
    rw [HW1.out, HW2.out]
    refine HLL.out.mono ?_
    clear HW1 HW2
    rintro e w6 ⟨rfl, hbu6, hb6⟩
    have hB6 := HB3.out.trans (hb6.mono (Nat.le_succ B))
    have c01 : w6.cell? ⟨B, 1, none⟩ = some (.slice A L.length c) := (hb6.cell (p := ⟨B, 1, none⟩) (Nat.lt_succ_self B)).trans ((B3.out.cell (p := ⟨B, 1, none⟩) (by show B < _; omega)).trans C01.out)
    have HBU6 := Lib.hid hbu6
    clear hbu6 hb6
    go_wp2_with fail
    go_loopw [6, 8, 18, 37] (fun v6 v8 i v37 wr => ∃ k : Nat, k ≤ L.length ∧ i = .int .i64 k ∧ Hid (BuiltF (B + 1) (B + 1) (Lib.byteCells (prefO (true, lnsX L) k)) wr) ∧ Below B w wr) (fun _ _ i _ _ => L.length - (intOf i).toNat)
    case atStart => exact ⟨0, Nat.zero_le _, rfl, HBU6.out, hB6⟩
    case round =>
      obtain ⟨k, hk, rfl, HBU, hbr⟩ := hrel
      have hsz := hbr.size
      have hlt := built_lt HBU.out
      by_cases h1 : k < L.length
      · obtain ⟨x, hx⟩ : ∃ x, L[k]? = some x := ⟨_, List.getElem?_eq_getElem h1⟩
        obtain ⟨g, o, rfl, hr⟩ := HH.out.row (by omega)
        obtain ⟨r1, r2⟩ := hr k x hx
        obtain ⟨hs0, hc0, hm0⟩ := HH.out.own x (List.mem_of_getElem? hx)
        have hgl : g < w.heap.size := World.block_lt_of_cell? w (a := ⟨g, o + k * 2, none⟩) r1
        have hbw : Below w.heap.size w wr := by rw [HB.out]; exact hbr
        have c1 := (hbw.cell (p := ⟨g, o + k * 2, none⟩) hgl).trans r1
        have c2 := (hbw.cell (p := ⟨g, o + k * 2 + 1, none⟩) hgl).trans r2
        have k1 : (k : Int) < (L.length : Int) := by omega
        have hln : (lnsX L)[k]? = some x.ln := by rw [lnsX_getElem?, hx]; rfl
        obtain ⟨xg, xA, xc, xns⟩ := x
        simp only at c1 c2 hs0 hc0 hm0
        unfold maxLen at hm0
        have hnx := prefO_next (o := (true, lnsX L)) (k := k) (x := (xg.data.toList, xns)) hln
        have hT1 := HPL.out (k + 1)
        rw [hnx, List.length_append] at hT1
        have HNX := Lib.hid hnx
        have HS0 := Lib.hid hs0
        clear hx hr r1 r2 hln hnx hs0
        cases hg0 : xg.toList.isEmpty with
        | true =>
          have hlp : lineP (xg.data.toList, xns) = xns.flatMap (fun n => n ++ [10]) := by
            unfold lineP; rw [← ByteArray.toList_eq, hg0, if_pos rfl]
          rw [hlp] at hT1 HNX
          have HG0 := Lib.hid hg0
          clear hlp
          go_wp2_with fail
          clear c1 c2 hg0
          obtain ⟨wc, hwc⟩ : ∃ wc, wc = wr := ⟨_, rfl⟩
          subst hwc
          go_loopw [8, 37] (fun v8 j wr => ∃ m : Nat, m ≤ xns.length ∧ j = .int .i64 m ∧ Hid (BuiltF (B + 1) (B + 1) (Lib.byteCells (prefO (true, lnsX L) k ++ namesP xns m)) wr) ∧ Below B w wr) (fun _ j _ => xns.length - (intOf j).toNat)
          case atStart => exact ⟨0, Nat.zero_le _, rfl, by unfold Hid; rw [show namesP xns 0 = [] from rfl, List.append_nil]; exact built_below HBU.out ((Below.refl _ _).alloc (Nat.le_refl _) _), hbr.alloc (by omega) _⟩
          case round =>
            obtain ⟨m, hm, rfl, HBU2, hbr2⟩ := hrel
            have hsz2 := hbr2.size
            have hlt2 := built_lt HBU2.out
            by_cases h2 : m < xns.length
            · obtain ⟨n, hn⟩ : ∃ n, xns[m]? = some n := ⟨_, List.getElem?_eq_getElem h2⟩
              obtain ⟨g2, o2, hA2, hc2⟩ := HS0.out (by omega)
              subst hA2
              have r3 := hc2 m n hn
              have hgl2 : g2 < w.heap.size := World.block_lt_of_cell? w (a := ⟨g2, o2 + m, none⟩) r3
              have hbw2 : Below w.heap.size w wr := by rw [HB.out]; exact hbr2
              have c3 := (hbw2.cell (p := ⟨g2, o2 + m, none⟩) hgl2).trans r3
              have k2 : (m : Int) < (xns.length : Int) := by omega
              have hnm := namesP_next hn
              have hle := namesP_le xns (m + 1)
              rw [hnm, List.length_append, List.length_append, List.length_singleton] at hle
              have HNM := Lib.hid hnm
              have hone := one_at wr (mkB n)
              rw [mkB_data] at hone
              have hba : Below wr.heap.size wr (wr.alloc (.cells #[.string (mkB n)] 9)) := (Below.refl _ _).alloc (Nat.le_refl _) _
              have hj1 : joinS [n] = n := by unfold joinS; simp
              have HL := oline_any (B + 1) (B + 1) (prefO (true, lnsX L) k ++ namesP xns m) [n] (some ⟨wr.heap.size, 0, none⟩) 1 (wr.alloc (.cells #[.string (mkB n)] 9)) (built_below HBU2.out hba) (by have := hba.size; omega) hone (Nat.le_refl _) (by show (1 : Nat) ≤ 1000000; decide) (by rw [List.length_append]; omega) (by rw [hj1]; omega)
              rw [line_name] at HL
              have HLL := Lib.hid HL
              clear hn hc2 r3 hnm hone HL hj1
              go_wp2_with fail
              refine HLL.out.mono ?_
              rintro e w3 ⟨rfl, hbu3, hb3⟩
              have hB3 := (hbr2.alloc (o := .cells #[.string (mkB n)] 9) (by omega)).trans (hb3.mono (Nat.le_succ B))
              rw [List.append_assoc, ← HNM.out] at hbu3
              go_wp2_with fail
              go_roundw
              case rel => exact ⟨m + 1, by omega, by go_num, hbu3, hB3⟩
              case measure => simp [intOf]; omega
            · obtain rfl : m = xns.length := by omega
              go_wp2_with fail
              go_roundw
              case rel => exact ⟨k + 1, by omega, by go_num, by unfold Hid; rw [HNX.out, ← namesP_all]; exact HBU2.out, hbr2⟩
              case measure => simp [intOf]; omega
        | false =>
          have hlp : joinS (perW :: xg.data.toList :: xns) ++ [10] = lineP (xg.data.toList, xns) := line_glob _ _ (by rw [← ByteArray.toList_eq]; exact hg0)
          have hnl := ns_glob xg.data.toList xns (by rw [← ByteArray.toList_eq]; exact hg0)
          have HLP := Lib.hid hlp
          obtain ⟨W1, hW1⟩ : ∃ W1, wr.alloc (.cells #[.string xg, .slice xA xns.length xc] 62) = W1 := ⟨_, rfl⟩
          obtain ⟨W2, hW2⟩ : ∃ W2, W1.alloc (.cells #[.string ⟨#[112, 101, 114, 45, 102, 105, 108, 101]⟩, .string xg] 9) = W2 := ⟨_, rfl⟩
          obtain ⟨W3, hW3⟩ : ∃ W3, W2.alloc (.cells #[.slice (some ⟨wr.heap.size + 1, 0, none⟩) 2 2, .slice xA xns.length xc] 39) = W3 := ⟨_, rfl⟩
          have hs1 : W1.heap.size = wr.heap.size + 1 := by rw [← hW1]; exact World.size_alloc _ _
          have hs2 : W2.heap.size = wr.heap.size + 1 + 1 := by rw [← hW2, World.size_alloc, hs1]
          have b1 : Below wr.heap.size wr W1 := by rw [← hW1]; exact (Below.refl _ _).alloc (Nat.le_refl _) _
          have b2 : Below W1.heap.size W1 W2 := by rw [← hW2]; exact (Below.refl _ _).alloc (Nat.le_refl _) _
          have b3 : Below W2.heap.size W2 W3 := by rw [← hW3]; exact (Below.refl _ _).alloc (Nat.le_refl _) _
          have b12 : Below wr.heap.size wr W2 := b1.trans (b2.mono b1.size)
          have b13 : Below wr.heap.size wr W3 := b12.trans (b3.mono b12.size)
          have t2 := texts2 W1 ⟨#[112, 101, 114, 45, 102, 105, 108, 101]⟩ xg
          rw [hW2, hs1] at t2
          have n3 := heap_alloc_new W2 (.cells #[.slice (some ⟨wr.heap.size + 1, 0, none⟩) 2 2, .slice xA xns.length xc] 39)
          rw [hW3, hs2] at n3
          have hx3 : StrsAt W3 xA xns := ((HS0.out.below (by rw [HB.out]; exact hbr : Below w.heap.size w wr)).below b13)
          have HC := concatS_any [⟨some ⟨wr.heap.size + 1, 0, none⟩, 2, [perW, xg.data.toList]⟩, ⟨xA, xc, xns⟩] (wr.heap.size + 1 + 1) 0 2 W3 (fun j y hy => by
            match j, hy with
            | 0, hy => cases hy; exact cell_of_row _ _ 0 _ _ _ n3
            | 1, hy => cases hy; exact cell_of_row _ _ 1 _ _ _ n3
            | j + 2, hy => simp at hy) (Array.getElem?_eq_some_iff.1 n3).1 (fun y hy => by
            simp only [List.mem_cons, List.mem_nil_iff, or_false] at hy
            rcases hy with rfl | rfl
            · exact t2.below b3
            · exact hx3) (by show (2 : Nat) ≤ 1000; decide) (by show 0 < ([perW, xg.data.toList] ++ (xns ++ [])).length; simp) (by show ([perW, xg.data.toList] ++ (xns ++ [])).length ≤ _; rw [List.append_nil, List.length_append, List.length_cons, List.length_singleton]; omega)
          rw [show catS [⟨some ⟨wr.heap.size + 1, 0, none⟩, 2, [perW, xg.data.toList]⟩, ⟨xA, xc, xns⟩] [(⟨some ⟨wr.heap.size + 1, 0, none⟩, 2, [perW, xg.data.toList]⟩ : RX), ⟨xA, xc, xns⟩].length = perW :: xg.data.toList :: xns from by show [perW, xg.data.toList] ++ (xns ++ []) = _; rw [List.append_nil]; rfl] at HC
          simp only [List.length_cons, List.length_nil, Nat.zero_add] at HC
          have HCC := Lib.hid HC
          have B13 := Lib.hid b13
          have hT2 : (joinS (perW :: xg.data.toList :: xns)).length + 1 = (lineP (xg.data.toList, xns)).length := by rw [← hlp, List.length_append]; rfl
          have HW1 := Lib.hid hW1
          have HW2 := Lib.hid hW2
          have HW3 := Lib.hid hW3
          clear HC t2 n3 hx3 b1 b2 b3 b12 b13 hlp hW1 hW2 hW3 hs1 hs2
          go_wp2_with fail
          rw [HW1.out, HW2.out, HW3.out]
          refine HCC.out.mono ?_
          clear HW1 HW2 HW3
          rintro e w4 ⟨A4, c4, rfl, hst4, hc4, hm4, hb4⟩
          have hb04 : Below wr.heap.size wr w4 := B13.out.trans (hb4.mono B13.out.size)
          have HL := oline_any (B + 1) (B + 1) (prefO (true, lnsX L) k) (perW :: xg.data.toList :: xns) A4 c4 w4 (built_below HBU.out hb04) (by have := hb04.size; omega) hst4 hc4 (by simp only [List.length_cons]; omega) (by omega) (by omega)
          rw [HLP.out, ← HNX.out] at HL
          simp only [List.length_cons] at HL
          have HLL := Lib.hid HL
          have hB4 := hbr.trans (hb04.mono (by have := HB.out; omega))
          have HB4 := Lib.hid hB4
          clear HL hst4 hb4 hb04 hB4 c1 c2
          go_wp2_with fail
          refine HLL.out.mono ?_
          rintro e w5 ⟨rfl, hbu5, hb5⟩
          have hB5 := HB4.out.trans (hb5.mono (Nat.le_succ B))
          go_wp2_with fail
          go_roundw
          case rel => exact ⟨k + 1, by omega, by go_num, hbu5, hB5⟩
          case measure => simp [intOf]; omega
      · obtain rfl : k = L.length := by omega
        have hbu := HBU.out
        rw [HALL.out] at hbu
        have HST := Lib.hid (Tryz.Builder_String_any_k (B + 1) (B + 1) T wr hbu (by omega))
        clear hbu
        go_wp2_with fail
        refine HST.out.mono ?_
        rintro e w9 ⟨rfl, _, hb9, _⟩
        go_wp2_with fail
        go_ret
        exact ⟨rfl, hbr.trans (hb9.mono (Nat.le_succ B))⟩
end Go.Proofs.YtkihgbggndikpaaGreatDoor
namespace Go.Proofs.YtkihgbggndikpaaGreatDoor
open Go Go.RowKit Go.Shelf Go.Proofs
attribute [local go_sem] Oper.semAt_some

def lsum (l : List Bs) (m : Nat) : Nat := ((l.take m).map (fun n => 1 + n.length)).sum
theorem lsum_next {l : List Bs} {m : Nat} {n : Bs} (h : l[m]? = some n) : lsum l (m + 1) = lsum l m + (1 + n.length) := by
  unfold lsum
  rw [List.take_add_one, h, List.map_append, List.sum_append]
  simp
theorem lsum_le (l : List Bs) (m : Nat) : lsum l m ≤ (l.map (fun n => 1 + n.length)).sum := by
  unfold lsum
  conv => rhs; rw [← List.take_append_drop m l]
  rw [List.map_append, List.sum_append]; omega
theorem lsum_all (l : List Bs) : lsum l l.length = (l.map (fun n => 1 + n.length)).sum := by unfold lsum; rw [List.take_length]
def osum (L : List Ln) (k : Nat) : Nat := ((L.take k).map longLn).sum
theorem osum_next {L : List Ln} {k : Nat} {x : Ln} (h : L[k]? = some x) : osum L (k + 1) = osum L k + longLn x := by
  unfold osum
  rw [List.take_add_one, h, List.map_append, List.sum_append]
  simp
theorem osum_le (L : List Ln) (k : Nat) : osum L k ≤ (L.map longLn).sum := by
  unfold osum
  conv => rhs; rw [← List.take_append_drop k L]
  rw [List.map_append, List.sum_append]; omega
theorem osum_all (L : List Ln) : osum L L.length = (L.map longLn).sum := by unfold osum; rw [List.take_length]

set_option maxRecDepth 100000 in
set_option maxHeartbeats 8000000 in
theorem reflongO_any (np : Bool) (A : Option Addr) (c : Nat) (L : List LX) (w : World) (h : LinesAt w A c L) (hz : longO (np, lnsX L) ≤ 2000000) :
    Calls Tryz.prog 11 #[owV np A L.length c] w fun e w' => e = .returned (.int .i64 (longO (np, lnsX L))) ∧ Below w.heap.size w w' := by
  have HH := Lib.hid h
  have hLc : L.length ≤ maxLen := Nat.le_trans h.cap h.capm
  unfold maxLen at hLc
  have hle := osum_le (lnsX L)
  have hall := osum_all (lnsX L)
  rw [lnsX_length] at hall
  obtain ⟨T, hT⟩ : ∃ T, longO (np, lnsX L) = T := ⟨_, rfl⟩
  have hT' : ((lnsX L).map longLn).sum = T := hT
  rw [hT'] at hle hall
  rw [hT] at hz ⊢
  obtain ⟨W1, hW1⟩ : ∃ W1, w.alloc (.cells #[.bool np, .slice A L.length c] 24) = W1 := ⟨_, rfl⟩
  have hn := heap_alloc_new w (.cells #[.bool np, .slice A L.length c] 24)
  rw [hW1] at hn
  have hb1 : Below w.heap.size w W1 := by rw [← hW1]; exact (Below.refl _ _).alloc (Nat.le_refl _) _
  obtain ⟨B, hB⟩ : ∃ B, w.heap.size = B := ⟨_, rfl⟩
  rw [hB] at hn
  have c0 : W1.cell? ⟨B, 1, none⟩ = some (.slice A L.length c) := cell_of_row _ _ 1 _ _ _ hn
  have HL1 := Lib.hid (h.below hb1)
  have HLE := Lib.hid hle
  have HALL := Lib.hid hall
  have HW1 := Lib.hid hW1
  have HB1 := Lib.hid hb1
  have HB := Lib.hid hB
  clear h hle hall hT hT' hW1 hn hb1 hB
  unfold owV
  go_enter Tryz.func11, Tryz.ntmps11
  go_wp2_with fail
  rw [HW1.out]
  try rw [HB.out]
  clear HW1
  go_loopw [3, 4, 5] (fun v3 v4 v5 wr => ∃ k : Nat, k ≤ L.length ∧ v3 = .int .i64 (osum (lnsX L) k) ∧ v4 = .int .i64 k ∧ wr = W1) (fun _ v4 _ _ => L.length - (intOf v4).toNat)
  case atStart => exact ⟨0, Nat.zero_le _, rfl, rfl, rfl⟩
  case round =>
    obtain ⟨k, hk, rfl, rfl, hw⟩ := hrel
    have hw := hw.symm
    subst hw
    by_cases h1 : k < L.length
    · obtain ⟨x, hx⟩ : ∃ x, L[k]? = some x := ⟨_, List.getElem?_eq_getElem h1⟩
      obtain ⟨g, o, rfl, hr⟩ := HL1.out.row (by omega)
      obtain ⟨c1, c2⟩ := hr k x hx
      obtain ⟨hs0, hc0, hm0⟩ := HL1.out.own x (List.mem_of_getElem? hx)
      have hln : (lnsX L)[k]? = some x.ln := by rw [lnsX_getElem?, hx]; rfl
      obtain ⟨xg, xA, xc, xns⟩ := x
      simp only at c1 c2 hs0 hc0 hm0
      unfold maxLen at hm0
      have hnx := osum_next (L := lnsX L) (k := k) (x := (xg.data.toList, xns)) hln
      have hT1 := HLE.out (k + 1)
      rw [hnx] at hT1
      have hlx : longLn (xg.data.toList, xns) = 1 + xg.size + lsum xns xns.length := by rw [lsum_all]; unfold longLn; rw [show xg.data.toList.length = xg.size from Array.length_toList]
      rw [hlx] at hT1 hnx
      have hsl := lsum_le xns
      rw [← lsum_all] at hsl
      have HNX := Lib.hid hnx
      have HS0 := Lib.hid hs0
      have HSL := Lib.hid hsl
      have k1 : (k : Int) < (L.length : Int) := by omega
      generalize osum (lnsX L) k = V at *
      obtain ⟨Q, hQ⟩ : ∃ Q, lsum xns xns.length = Q := ⟨_, rfl⟩
      rw [hQ] at hT1
      have HQ := Lib.hid hQ
      clear hx hr hln hnx hlx hsl hs0 hQ
      go_wp2_with fail
      go_loopw [3, 5] (fun v3 v5 wr => ∃ m : Nat, m ≤ xns.length ∧ v3 = .int .i64 ((V + 1 + xg.size + lsum xns m : Nat) : Int) ∧ v5 = .int .i64 m ∧ wr = W1) (fun _ v5 _ => xns.length - (intOf v5).toNat)
      case atStart => exact ⟨0, Nat.zero_le _, by rw [show lsum xns 0 = 0 from rfl]; simp, rfl, rfl⟩
      case round =>
        obtain ⟨m, hm, rfl, rfl, hw⟩ := hrel
        have hw := hw.symm
        subst hw
        by_cases h2 : m < xns.length
        · obtain ⟨n, hn⟩ : ∃ n, xns[m]? = some n := ⟨_, List.getElem?_eq_getElem h2⟩
          obtain ⟨g2, o2, hA2, hc2⟩ := HS0.out (by omega)
          subst hA2
          have c3 := hc2 m n hn
          have k2 : (m : Int) < (xns.length : Int) := by omega
          have hnm := lsum_next hn
          have hle2 := HSL.out (m + 1)
          rw [HQ.out, hnm] at hle2
          have HNM := Lib.hid hnm
          obtain ⟨U, hU⟩ : ∃ U, V + 1 + xg.size + lsum xns m = U := ⟨_, rfl⟩
          have HU := Lib.hid hU
          have hmz : (mkB n).size = n.length := mkB_size n
          obtain ⟨M, hM⟩ : ∃ M, mkB n = M := ⟨_, rfl⟩
          rw [hM] at c3 hmz
          have hUz : U + 1 + M.size ≤ 2000000 := by omega
          have HMZ := Lib.hid hmz
          rw [hU]
          clear hn hc2 hnm hU hM hle2 hmz
          go_wp2_with fail
          go_roundw
          case rel => exact ⟨m + 1, by omega, by rw [HNM.out, ← HMZ.out, ← HU.out]; go_num, by go_num, by trivial⟩
          case measure => simp [intOf]; omega
        · obtain rfl : m = xns.length := by omega
          go_wp2_with fail
          go_roundw
          case rel => exact ⟨k + 1, by omega, by rw [HNX.out]; congr 2; omega, by go_num, by trivial⟩
          case measure => simp [intOf]; omega
    · obtain rfl : k = L.length := by omega
      go_wp2_with fail
      go_ret
      exact ⟨by rw [HALL.out]; rfl, HB1.out⟩
def flatP (l : List Bs) (k : Nat) : Bs := (l.take k).flatMap (fun n => 32 :: n)
theorem flatP_next {l : List Bs} {k : Nat} {n : Bs} (h : l[k]? = some n) : flatP l (k + 1) = flatP l k ++ 32 :: n := by
  unfold flatP
  rw [List.take_add_one, h, List.flatMap_append]
  simp
theorem flatP_le (l : List Bs) (k : Nat) : (flatP l k).length ≤ (flatP l l.length).length := by
  unfold flatP
  rw [List.take_length]
  conv => rhs; rw [← List.take_append_drop k l]
  rw [List.flatMap_append, List.length_append]; omega
theorem flatP_all (l : List Bs) : flatP l l.length = l.flatMap (fun n => 32 :: n) := by unfold flatP; rw [List.take_length]
theorem lineP_parts (g : Bs) (ns : List Bs) (h : g.isEmpty = false) : lineP (g, ns) = perW ++ 32 :: g ++ flatP ns ns.length ++ [10] := by
  rw [flatP_all]; unfold lineP; rw [h, if_neg (by simp)]
set_option maxRecDepth 100000 in
set_option maxHeartbeats 8000000 in
theorem refprint_any (np : Bool) (A : Option Addr) (c : Nat) (L : List LX) (w : World) (h : LinesAt w A c L) (hz : (printO (np, lnsX L)).length ≤ 1000000) :
    Calls Tryz.prog 19 #[owV np A L.length c] w fun e w' => e = .returned (.string (mkB (printO (np, lnsX L)))) ∧ Below w.heap.size w w' := by
  have hLc : L.length ≤ maxLen := Nat.le_trans h.cap h.capm
  unfold maxLen at hLc
  have hall := prefO_all (np, lnsX L)
  simp only [lnsX_length] at hall
  have hpl := prefO_le (np, lnsX L)
  obtain ⟨T, hT⟩ : ∃ T, printO (np, lnsX L) = T := ⟨_, rfl⟩
  rw [hT] at hz hall hpl ⊢
  obtain ⟨W1, hW1⟩ : ∃ W1, w.alloc (.cells #[.bool np, .slice A L.length c] 24) = W1 := ⟨_, rfl⟩
  have hn := heap_alloc_new w (.cells #[.bool np, .slice A L.length c] 24)
  rw [hW1] at hn
  have hb1 : Below w.heap.size w W1 := by rw [← hW1]; exact (Below.refl _ _).alloc (Nat.le_refl _) _
  obtain ⟨B, hB⟩ : ∃ B, w.heap.size = B := ⟨_, rfl⟩
  rw [hB] at hn
  have c0 : W1.cell? ⟨B, 1, none⟩ = some (.slice A L.length c) := cell_of_row _ _ 1 _ _ _ hn
  have d0 : W1.cell? ⟨B, 0, none⟩ = some (.bool np) := cell_of_row _ _ 0 _ _ _ hn
  have C0 := Lib.hid c0
  have D0 := Lib.hid d0
  have HL1 := Lib.hid (h.below hb1)
  have HPL := Lib.hid hpl
  have HALL := Lib.hid hall
  have HW1 := Lib.hid hW1
  have HB1 := Lib.hid hb1
  have HB := Lib.hid hB
  clear h hpl hall hT hW1 hn hb1 hB c0 d0
  unfold owV
  go_enter Tryz.func19, Tryz.ntmps19
  go_upto_region 2 with (fail)
  rw [HW1.out]
  try rw [HB.out]
  clear HW1
  have d0 := D0.out
  cases np with
  | false =>
    go_wp2_with fail
    clear d0
    go_loopw [3, 4, 5, 6] (fun v3 v4 v5 v6 wr => ∃ (k : Nat) (X : ByteArray), k ≤ L.length ∧ v3 = .string X ∧ v4 = .int .i64 k ∧ Hid (X.data.toList = prefO (false, lnsX L) k) ∧ Below W1.heap.size W1 wr) (fun _ v4 _ _ _ => L.length - (intOf v4).toNat)
    case atStart => exact ⟨0, _, Nat.zero_le _, rfl, rfl, rfl, Below.refl _ _⟩
    case round =>
      obtain ⟨k, X, hk, rfl, rfl, HX, hbr⟩ := hrel
      have hsz := hbr.size
      have c0 := (hbr.cell (p := ⟨B, 1, none⟩) (World.block_lt_of_cell? W1 (a := ⟨B, 1, none⟩) C0.out)).trans C0.out
      have hXl : X.size = (prefO (false, lnsX L) k).length := by rw [← HX.out, Array.length_toList]; rfl
      by_cases h1 : k < L.length
      · obtain ⟨x, hx⟩ : ∃ x, L[k]? = some x := ⟨_, List.getElem?_eq_getElem h1⟩
        obtain ⟨g, o, rfl, hr⟩ := HL1.out.row (by omega)
        obtain ⟨r1, r2⟩ := hr k x hx
        obtain ⟨hs0, hc0, hm0⟩ := HL1.out.own x (List.mem_of_getElem? hx)
        have hgl : g < W1.heap.size := World.block_lt_of_cell? W1 (a := ⟨g, o + k * 2, none⟩) r1
        have c1 := (hbr.cell (p := ⟨g, o + k * 2, none⟩) hgl).trans r1
        have c2 := (hbr.cell (p := ⟨g, o + k * 2 + 1, none⟩) hgl).trans r2
        have hln : (lnsX L)[k]? = some x.ln := by rw [lnsX_getElem?, hx]; rfl
        obtain ⟨xg, xA, xc, xns⟩ := x
        simp only at c1 c2 hs0 hc0 hm0
        unfold maxLen at hm0
        have hnx := prefO_next (o := (false, lnsX L)) (k := k) (x := (xg.data.toList, xns)) hln
        have hT1 := HPL.out (k + 1)
        rw [hnx, List.length_append] at hT1
        have HNX := Lib.hid hnx
        have HS0 := Lib.hid (hs0.below hbr)
        have k1 : (k : Int) < (L.length : Int) := by omega
        have hgz : xg.data.toList.length = xg.size := Array.length_toList
        have hbn : Below W1.heap.size W1 (wr.alloc (.cells #[.string xg, .slice xA xns.length xc] 62)) := hbr.alloc (by omega) _
        have hnn := heap_alloc_new wr (.cells #[.string xg, .slice xA xns.length xc] 62)
        have hbo : Below wr.heap.size wr (wr.alloc (.cells #[.string xg, .slice xA xns.length xc] 62)) := (Below.refl _ _).alloc (Nat.le_refl _) _
        obtain ⟨W3, hW3⟩ : ∃ W3, wr.alloc (.cells #[.string xg, .slice xA xns.length xc] 62) = W3 := ⟨_, rfl⟩
        rw [hW3] at hbn hnn hbo
        have hs3 := HS0.out.below hbo
        have HS3 := Lib.hid hs3
        have HW3 := Lib.hid hW3
        have HBN := Lib.hid hbn
        obtain ⟨b, hb⟩ : ∃ b, wr.heap.size = b := ⟨_, rfl⟩
        rw [hb] at hnn
        have HBB := Lib.hid hb
        have l0 : W3.cell? ⟨b, 0, none⟩ = some (.string xg) := cell_of_row _ _ 0 _ _ _ hnn
        have l1 : W3.cell? ⟨b, 1, none⟩ = some (.slice xA xns.length xc) := cell_of_row _ _ 1 _ _ _ hnn
        have L0 := Lib.hid l0
        have L1 := Lib.hid l1
        clear hx hr r1 r2 hln hnx hs0 hW3 hbn hnn hbo hs3 l0 l1 hb HS0
        cases hg0 : xg.toList.isEmpty with
        | true =>
          have hlp : lineP (xg.data.toList, xns) = xns.flatMap (fun n => n ++ [10]) := by
            unfold lineP; rw [← ByteArray.toList_eq, hg0, if_pos rfl]
          rw [hlp] at hT1 HNX
          have HG0 := Lib.hid hg0
          clear hlp
          go_upto_region 8 with (fail)
          rw [HW3.out]
          try rw [HBB.out]
          clear HW3 c1 c2 c0
          have l0 := L0.out
          have l1 := L1.out
          go_wp2_with fail
          clear hbr
          go_loopw [3, 6] (fun v3 v6 wr => ∃ (m : Nat) (Y : ByteArray), m ≤ xns.length ∧ v3 = .string Y ∧ v6 = .int .i64 m ∧ Hid (Y.data.toList = prefO (false, lnsX L) k ++ namesP xns m) ∧ wr = W3) (fun _ v6 _ => xns.length - (intOf v6).toNat)
          case atStart => exact ⟨0, X, Nat.zero_le _, rfl, rfl, by unfold Hid; rw [HX.out, show namesP xns 0 = [] from rfl, List.append_nil], rfl⟩
          case round =>
            obtain ⟨m, Y, hm, rfl, rfl, HY, hw⟩ := hrel
            have hw := hw.symm
            subst hw
            have hYl : Y.size = (prefO (false, lnsX L) k).length + (namesP xns m).length := by rw [← List.length_append, ← HY.out, Array.length_toList]; rfl
            by_cases h2 : m < xns.length
            · obtain ⟨n, hn⟩ : ∃ n, xns[m]? = some n := ⟨_, List.getElem?_eq_getElem h2⟩
              obtain ⟨g2, o2, hA2, hc2⟩ := HS3.out (by omega)
              subst hA2
              have c3 := hc2 m n hn
              have k2 : (m : Int) < (xns.length : Int) := by omega
              have hnm := namesP_next hn
              have hle := namesP_le xns (m + 1)
              rw [hnm, List.length_append, List.length_append, List.length_singleton] at hle
              have HNM := Lib.hid hnm
              have hmz : (mkB n).size = n.length := mkB_size n
              obtain ⟨M, hM⟩ : ∃ M, mkB n = M := ⟨_, rfl⟩
              have HMD : Hid (M.data.toList = n) := by unfold Hid; rw [← hM, mkB_data]
              rw [hM] at c3 hmz
              clear hn hc2 hnm hM
              go_wp2_with fail
              go_roundw
              case rel => exact ⟨m + 1, Y ++ M ++ ⟨#[10]⟩, by omega, rfl, by go_num, by unfold Hid; rw [HNM.out, ← List.append_assoc, ← HY.out, ByteArray.data_append, ByteArray.data_append, Array.toList_append, Array.toList_append, HMD.out, List.append_assoc], by trivial⟩
              case measure => simp [intOf]; omega
            · obtain rfl : m = xns.length := by omega
              go_wp2_with fail
              go_roundw
              case rel => exact ⟨k + 1, Y, by omega, rfl, by go_num, by unfold Hid; rw [HNX.out, ← namesP_all]; exact HY.out, HBN.out⟩
              case measure => simp [intOf]; omega
        | false =>
          have hgl2 : xg.data.toList.isEmpty = false := by rw [← ByteArray.toList_eq]; exact hg0
          have hlp := lineP_parts xg.data.toList xns hgl2
          rw [hlp] at HNX
          rw [hlp, List.length_append, List.length_append, List.length_append, List.length_cons, List.length_singleton, show perW.length = 8 from rfl, hgz] at hT1
          have HG0 := Lib.hid hg0
          clear hlp hgl2
          go_upto_region 8 with (fail)
          rw [HW3.out]
          try rw [HBB.out]
          clear HW3 c1 c2 c0
          have l0 := L0.out
          have l1 := L1.out
          go_wp2_with fail
          clear hbr
          go_loopw [3, 6] (fun v3 v6 wr => ∃ (m : Nat) (Y : ByteArray), m ≤ xns.length ∧ v3 = .string Y ∧ v6 = .int .i64 m ∧ Hid (Y.data.toList = prefO (false, lnsX L) k ++ (perW ++ 32 :: xg.data.toList ++ flatP xns m)) ∧ wr = W3) (fun _ v6 _ => xns.length - (intOf v6).toNat)
          case atStart => exact ⟨0, _, Nat.zero_le _, rfl, rfl, by unfold Hid; rw [show flatP xns 0 = [] from rfl, List.append_nil, ByteArray.data_append, ByteArray.data_append, Array.toList_append, Array.toList_append, HX.out, List.append_assoc]; simp [perW], rfl⟩
          case round =>
            obtain ⟨m, Y, hm, rfl, rfl, HY, hw⟩ := hrel
            have hw := hw.symm
            subst hw
            have hle0 := flatP_le xns m
            have hYl : Y.size = (prefO (false, lnsX L) k).length + (8 + (1 + xg.size) + (flatP xns m).length) := by
              have := congrArg List.length HY.out
              rw [Array.length_toList, List.length_append, List.length_append, List.length_append, List.length_cons, show perW.length = 8 from rfl, hgz] at this
              show Y.data.size = _
              omega
            by_cases h2 : m < xns.length
            · obtain ⟨n, hn⟩ : ∃ n, xns[m]? = some n := ⟨_, List.getElem?_eq_getElem h2⟩
              obtain ⟨g2, o2, hA2, hc2⟩ := HS3.out (by omega)
              subst hA2
              have c3 := hc2 m n hn
              have k2 : (m : Int) < (xns.length : Int) := by omega
              have hnm := flatP_next hn
              have hle := flatP_le xns (m + 1)
              rw [hnm, List.length_append, List.length_cons] at hle
              have HNM := Lib.hid hnm
              have hmz : (mkB n).size = n.length := mkB_size n
              obtain ⟨M, hM⟩ : ∃ M, mkB n = M := ⟨_, rfl⟩
              have HMD : Hid (M.data.toList = n) := by unfold Hid; rw [← hM, mkB_data]
              rw [hM] at c3 hmz
              clear hn hc2 hnm hM
              go_wp2_with fail
              go_roundw
              case rel => exact ⟨m + 1, Y ++ ⟨#[32]⟩ ++ M, by omega, rfl, by go_num, by unfold Hid; rw [HNM.out, ByteArray.data_append, ByteArray.data_append, Array.toList_append, Array.toList_append, HMD.out, HY.out]; simp, by trivial⟩
              case measure => simp [intOf]; omega
            · obtain rfl : m = xns.length := by omega
              go_wp2_with fail
              go_roundw
              case rel => exact ⟨k + 1, Y ++ ⟨#[10]⟩, by omega, rfl, by go_num, by unfold Hid; rw [HNX.out, ByteArray.data_append, Array.toList_append, HY.out]; simp, HBN.out⟩
              case measure => simp [intOf]; omega
      · obtain rfl : k = L.length := by omega
        have hX := HX.out
        rw [HALL.out] at hX
        have hXe : X = mkB T := by rw [← hX, data_mkB]
        have HXE := Lib.hid hXe
        clear hX hXe
        go_wp2_with fail
        go_ret
        exact ⟨by rw [← HXE.out]; rfl, HB1.out.trans (hbr.mono HB1.out.size)⟩
  | true =>
    go_wp2_with fail
    clear d0
    go_loopw [3, 4, 5, 6] (fun v3 v4 v5 v6 wr => ∃ (k : Nat) (X : ByteArray), k ≤ L.length ∧ v3 = .string X ∧ v4 = .int .i64 k ∧ Hid (X.data.toList = prefO (true, lnsX L) k) ∧ Below W1.heap.size W1 wr) (fun _ v4 _ _ _ => L.length - (intOf v4).toNat)
    case atStart => exact ⟨0, _, Nat.zero_le _, rfl, rfl, rfl, Below.refl _ _⟩
    case round =>
      obtain ⟨k, X, hk, rfl, rfl, HX, hbr⟩ := hrel
      have hsz := hbr.size
      have c0 := (hbr.cell (p := ⟨B, 1, none⟩) (World.block_lt_of_cell? W1 (a := ⟨B, 1, none⟩) C0.out)).trans C0.out
      have hXl : X.size = (prefO (true, lnsX L) k).length := by rw [← HX.out, Array.length_toList]; rfl
      by_cases h1 : k < L.length
      · obtain ⟨x, hx⟩ : ∃ x, L[k]? = some x := ⟨_, List.getElem?_eq_getElem h1⟩
        obtain ⟨g, o, rfl, hr⟩ := HL1.out.row (by omega)
        obtain ⟨r1, r2⟩ := hr k x hx
        obtain ⟨hs0, hc0, hm0⟩ := HL1.out.own x (List.mem_of_getElem? hx)
        have hgl : g < W1.heap.size := World.block_lt_of_cell? W1 (a := ⟨g, o + k * 2, none⟩) r1
        have c1 := (hbr.cell (p := ⟨g, o + k * 2, none⟩) hgl).trans r1
        have c2 := (hbr.cell (p := ⟨g, o + k * 2 + 1, none⟩) hgl).trans r2
        have hln : (lnsX L)[k]? = some x.ln := by rw [lnsX_getElem?, hx]; rfl
        obtain ⟨xg, xA, xc, xns⟩ := x
        simp only at c1 c2 hs0 hc0 hm0
        unfold maxLen at hm0
        have hnx := prefO_next (o := (true, lnsX L)) (k := k) (x := (xg.data.toList, xns)) hln
        have hT1 := HPL.out (k + 1)
        rw [hnx, List.length_append] at hT1
        have HNX := Lib.hid hnx
        have HS0 := Lib.hid (hs0.below hbr)
        have k1 : (k : Int) < (L.length : Int) := by omega
        have hgz : xg.data.toList.length = xg.size := Array.length_toList
        have hbn : Below W1.heap.size W1 (wr.alloc (.cells #[.string xg, .slice xA xns.length xc] 62)) := hbr.alloc (by omega) _
        have hnn := heap_alloc_new wr (.cells #[.string xg, .slice xA xns.length xc] 62)
        have hbo : Below wr.heap.size wr (wr.alloc (.cells #[.string xg, .slice xA xns.length xc] 62)) := (Below.refl _ _).alloc (Nat.le_refl _) _
        obtain ⟨W3, hW3⟩ : ∃ W3, wr.alloc (.cells #[.string xg, .slice xA xns.length xc] 62) = W3 := ⟨_, rfl⟩
        rw [hW3] at hbn hnn hbo
        have hs3 := HS0.out.below hbo
        have HS3 := Lib.hid hs3
        have HW3 := Lib.hid hW3
        have HBN := Lib.hid hbn
        obtain ⟨b, hb⟩ : ∃ b, wr.heap.size = b := ⟨_, rfl⟩
        rw [hb] at hnn
        have HBB := Lib.hid hb
        have l0 : W3.cell? ⟨b, 0, none⟩ = some (.string xg) := cell_of_row _ _ 0 _ _ _ hnn
        have l1 : W3.cell? ⟨b, 1, none⟩ = some (.slice xA xns.length xc) := cell_of_row _ _ 1 _ _ _ hnn
        have L0 := Lib.hid l0
        have L1 := Lib.hid l1
        clear hx hr r1 r2 hln hnx hs0 hW3 hbn hnn hbo hs3 l0 l1 hb HS0
        cases hg0 : xg.toList.isEmpty with
        | true =>
          have hlp : lineP (xg.data.toList, xns) = xns.flatMap (fun n => n ++ [10]) := by
            unfold lineP; rw [← ByteArray.toList_eq, hg0, if_pos rfl]
          rw [hlp] at hT1 HNX
          have HG0 := Lib.hid hg0
          clear hlp
          go_upto_region 8 with (fail)
          rw [HW3.out]
          try rw [HBB.out]
          clear HW3 c1 c2 c0
          have l0 := L0.out
          have l1 := L1.out
          go_wp2_with fail
          clear hbr
          go_loopw [3, 6] (fun v3 v6 wr => ∃ (m : Nat) (Y : ByteArray), m ≤ xns.length ∧ v3 = .string Y ∧ v6 = .int .i64 m ∧ Hid (Y.data.toList = prefO (true, lnsX L) k ++ namesP xns m) ∧ wr = W3) (fun _ v6 _ => xns.length - (intOf v6).toNat)
          case atStart => exact ⟨0, X, Nat.zero_le _, rfl, rfl, by unfold Hid; rw [HX.out, show namesP xns 0 = [] from rfl, List.append_nil], rfl⟩
          case round =>
            obtain ⟨m, Y, hm, rfl, rfl, HY, hw⟩ := hrel
            have hw := hw.symm
            subst hw
            have hYl : Y.size = (prefO (true, lnsX L) k).length + (namesP xns m).length := by rw [← List.length_append, ← HY.out, Array.length_toList]; rfl
            by_cases h2 : m < xns.length
            · obtain ⟨n, hn⟩ : ∃ n, xns[m]? = some n := ⟨_, List.getElem?_eq_getElem h2⟩
              obtain ⟨g2, o2, hA2, hc2⟩ := HS3.out (by omega)
              subst hA2
              have c3 := hc2 m n hn
              have k2 : (m : Int) < (xns.length : Int) := by omega
              have hnm := namesP_next hn
              have hle := namesP_le xns (m + 1)
              rw [hnm, List.length_append, List.length_append, List.length_singleton] at hle
              have HNM := Lib.hid hnm
              have hmz : (mkB n).size = n.length := mkB_size n
              obtain ⟨M, hM⟩ : ∃ M, mkB n = M := ⟨_, rfl⟩
              have HMD : Hid (M.data.toList = n) := by unfold Hid; rw [← hM, mkB_data]
              rw [hM] at c3 hmz
              clear hn hc2 hnm hM
              go_wp2_with fail
              go_roundw
              case rel => exact ⟨m + 1, Y ++ M ++ ⟨#[10]⟩, by omega, rfl, by go_num, by unfold Hid; rw [HNM.out, ← List.append_assoc, ← HY.out, ByteArray.data_append, ByteArray.data_append, Array.toList_append, Array.toList_append, HMD.out, List.append_assoc], by trivial⟩
              case measure => simp [intOf]; omega
            · obtain rfl : m = xns.length := by omega
              go_wp2_with fail
              go_roundw
              case rel => exact ⟨k + 1, Y, by omega, rfl, by go_num, by unfold Hid; rw [HNX.out, ← namesP_all]; exact HY.out, HBN.out⟩
              case measure => simp [intOf]; omega
        | false =>
          have hgl2 : xg.data.toList.isEmpty = false := by rw [← ByteArray.toList_eq]; exact hg0
          have hlp := lineP_parts xg.data.toList xns hgl2
          rw [hlp] at HNX
          rw [hlp, List.length_append, List.length_append, List.length_append, List.length_cons, List.length_singleton, show perW.length = 8 from rfl, hgz] at hT1
          have HG0 := Lib.hid hg0
          clear hlp hgl2
          go_upto_region 8 with (fail)
          rw [HW3.out]
          try rw [HBB.out]
          clear HW3 c1 c2 c0
          have l0 := L0.out
          have l1 := L1.out
          go_wp2_with fail
          clear hbr
          go_loopw [3, 6] (fun v3 v6 wr => ∃ (m : Nat) (Y : ByteArray), m ≤ xns.length ∧ v3 = .string Y ∧ v6 = .int .i64 m ∧ Hid (Y.data.toList = prefO (true, lnsX L) k ++ (perW ++ 32 :: xg.data.toList ++ flatP xns m)) ∧ wr = W3) (fun _ v6 _ => xns.length - (intOf v6).toNat)
          case atStart => exact ⟨0, _, Nat.zero_le _, rfl, rfl, by unfold Hid; rw [show flatP xns 0 = [] from rfl, List.append_nil, ByteArray.data_append, ByteArray.data_append, Array.toList_append, Array.toList_append, HX.out, List.append_assoc]; simp [perW], rfl⟩
          case round =>
            obtain ⟨m, Y, hm, rfl, rfl, HY, hw⟩ := hrel
            have hw := hw.symm
            subst hw
            have hle0 := flatP_le xns m
            have hYl : Y.size = (prefO (true, lnsX L) k).length + (8 + (1 + xg.size) + (flatP xns m).length) := by
              have := congrArg List.length HY.out
              rw [Array.length_toList, List.length_append, List.length_append, List.length_append, List.length_cons, show perW.length = 8 from rfl, hgz] at this
              show Y.data.size = _
              omega
            by_cases h2 : m < xns.length
            · obtain ⟨n, hn⟩ : ∃ n, xns[m]? = some n := ⟨_, List.getElem?_eq_getElem h2⟩
              obtain ⟨g2, o2, hA2, hc2⟩ := HS3.out (by omega)
              subst hA2
              have c3 := hc2 m n hn
              have k2 : (m : Int) < (xns.length : Int) := by omega
              have hnm := flatP_next hn
              have hle := flatP_le xns (m + 1)
              rw [hnm, List.length_append, List.length_cons] at hle
              have HNM := Lib.hid hnm
              have hmz : (mkB n).size = n.length := mkB_size n
              obtain ⟨M, hM⟩ : ∃ M, mkB n = M := ⟨_, rfl⟩
              have HMD : Hid (M.data.toList = n) := by unfold Hid; rw [← hM, mkB_data]
              rw [hM] at c3 hmz
              clear hn hc2 hnm hM
              go_wp2_with fail
              go_roundw
              case rel => exact ⟨m + 1, Y ++ ⟨#[32]⟩ ++ M, by omega, rfl, by go_num, by unfold Hid; rw [HNM.out, ByteArray.data_append, ByteArray.data_append, Array.toList_append, Array.toList_append, HMD.out, HY.out]; simp, by trivial⟩
              case measure => simp [intOf]; omega
            · obtain rfl : m = xns.length := by omega
              go_wp2_with fail
              go_roundw
              case rel => exact ⟨k + 1, Y ++ ⟨#[10]⟩, by omega, rfl, by go_num, by unfold Hid; rw [HNX.out, ByteArray.data_append, Array.toList_append, HY.out]; simp, HBN.out⟩
              case measure => simp [intOf]; omega
      · obtain rfl : k = L.length := by omega
        have hX := HX.out
        rw [HALL.out] at hX
        have hXe : X = mkB T := by rw [← hX, data_mkB]
        have HXE := Lib.hid hXe
        clear hX hXe
        go_wp2_with fail
        go_ret
        exact ⟨by rw [← HXE.out]; rfl, HB1.out.trans (hbr.mono HB1.out.size)⟩
end Go.Proofs.YtkihgbggndikpaaGreatDoor
namespace Go.Proofs.YtkihgbggndikpaaGreatDoor
open Go Go.RowKit Go.Shelf Go.Proofs
attribute [local go_sem] Oper.semAt_some

theorem row_belowQ {W W' : World} {b : Nat} {o : Obj} (h : W.heap[b]? = some o) (hb : Below W.heap.size W W') : W'.heap[b]? = some o := (hb.block _ (Array.getElem?_eq_some_iff.1 h).1).trans h
set_option maxRecDepth 100000 in
set_option maxHeartbeats 8000000 in
theorem refsameO_any (np mp : Bool) (A A2 : Option Addr) (c c2 : Nat) (L M : List LX) (w : World) (h : LinesAt w A c L) (h2 : LinesAt w A2 c2 M) (hz : ∀ x ∈ L, x.ns.length ≤ 9000000000000) (hz2 : ∀ x ∈ M, x.ns.length ≤ 9000000000000) :
    Calls Tryz.prog 15 #[owV np A L.length c, owV mp A2 M.length c2] w (BoolPost (decide ((np, lnsX L) = (mp, lnsX M))) w) := by
  obtain ⟨Rz, hRz⟩ : ∃ Rz, decide ((np, lnsX L) = (mp, lnsX M)) = Rz := ⟨_, rfl⟩
  rw [hRz]
  have HRZ := Lib.hid hRz
  clear hRz
  have hLc : L.length ≤ maxLen := Nat.le_trans h.cap h.capm
  unfold maxLen at hLc
  obtain ⟨B, hB⟩ : ∃ B, w.heap.size = B := ⟨_, rfl⟩
  obtain ⟨W1, hW1⟩ : ∃ W1, w.alloc (.cells #[.bool np, .slice A L.length c] 24) = W1 := ⟨_, rfl⟩
  obtain ⟨W2, hW2⟩ : ∃ W2, W1.alloc (.cells #[.bool mp, .slice A2 M.length c2] 24) = W2 := ⟨_, rfl⟩
  have hn1 := heap_alloc_new w (.cells #[.bool np, .slice A L.length c] 24)
  have hn2 := heap_alloc_new W1 (.cells #[.bool mp, .slice A2 M.length c2] 24)
  have s1 : W1.heap.size = B + 1 := by rw [← hW1, World.size_alloc, hB]
  rw [hW1, hB] at hn1
  rw [hW2, s1] at hn2
  have b1 : Below w.heap.size w W1 := by rw [← hW1]; exact (Below.refl _ _).alloc (Nat.le_refl _) _
  have b2 : Below W1.heap.size W1 W2 := by rw [← hW2]; exact (Below.refl _ _).alloc (Nat.le_refl _) _
  have bw := b1.trans (b2.mono b1.size)
  have hn1 := row_belowQ hn1 b2
  have C0 : Hid (W2.cell? ⟨B, 1, none⟩ = some (.slice A L.length c)) := cell_of_row _ _ 1 _ _ _ hn1
  have C1 : Hid (W2.cell? ⟨B + 1, 1, none⟩ = some (.slice A2 M.length c2)) := cell_of_row _ _ 1 _ _ _ hn2
  have E0 : Hid (W2.cell? ⟨B, 0, none⟩ = some (.bool np)) := cell_of_row _ _ 0 _ _ _ hn1
  have E1 : Hid (W2.cell? ⟨B + 1, 0, none⟩ = some (.bool mp)) := cell_of_row _ _ 0 _ _ _ hn2
  have HL := Lib.hid (h.below bw)
  have HM := Lib.hid (h2.below bw)
  have HZ := Lib.hid hz
  have HZ2 := Lib.hid hz2
  have HBW := Lib.hid bw
  have HW1 := Lib.hid hW1
  have HW2 := Lib.hid hW2
  have HB := Lib.hid hB
  clear h h2 hz hz2 hW1 hW2 hn1 hn2 s1 b1 b2 bw
  unfold owV
  go_enter Tryz.func15, Tryz.ntmps15
  go_upto_region 1 with (fail)
  try rw [HB.out]
  rw [HW1.out, HW2.out]
  clear HW1 HW2 hB
  have c0 := C0.out
  have c0b := C1.out
  have e0 := E0.out
  have e0b := E1.out
  by_cases hnp : np = mp
  · subst hnp
    by_cases hlm : L.length = M.length
    · have HLM := Lib.hid hlm
      rw [← hlm] at C1 c0b
      have g1 : ((L.length : Int) != (L.length : Int)) = false := by simp
      clear hlm
      cases np with
      | false =>
        go_wp2_with fail
        go_loopw [5] (fun v5 wr => ∃ k : Nat, k ≤ L.length ∧ v5 = .int .i64 k ∧ Hid (∀ j, j < k → (lnsX L)[j]? = (lnsX M)[j]?) ∧ Below W2.heap.size W2 wr) (fun v5 _ => L.length - (intOf v5).toNat)
        case atStart => exact ⟨0, Nat.zero_le _, rfl, fun j hj => absurd hj (Nat.not_lt_zero _), Below.refl _ _⟩
        case round =>
          obtain ⟨k, hk, rfl, HALL, hbr⟩ := hrel
          clear c0 c0b e0 e0b
          have hsz := hbr.size
          have c0 := (hbr.cell (p := ⟨B, 1, none⟩) (World.block_lt_of_cell? W2 (a := ⟨B, 1, none⟩) C0.out)).trans C0.out
          have c0b := (hbr.cell (p := ⟨B + 1, 1, none⟩) (World.block_lt_of_cell? W2 (a := ⟨B + 1, 1, none⟩) C1.out)).trans C1.out
          by_cases h1 : k < L.length
          · obtain ⟨x, hx⟩ : ∃ x, L[k]? = some x := ⟨_, List.getElem?_eq_getElem h1⟩
            obtain ⟨y, hy⟩ : ∃ y, M[k]? = some y := ⟨_, List.getElem?_eq_getElem (by have := HLM.out; omega)⟩
            obtain ⟨g, o, rfl, hr⟩ := HL.out.row (by omega)
            obtain ⟨h, q, rfl, hr2⟩ := HM.out.row (by have := HLM.out; omega)
            obtain ⟨r1, r2⟩ := hr k x hx
            obtain ⟨r3, r4⟩ := hr2 k y hy
            obtain ⟨hs0, _, _⟩ := HL.out.own x (List.mem_of_getElem? hx)
            obtain ⟨hs1, _, _⟩ := HM.out.own y (List.mem_of_getElem? hy)
            have z0 := HZ.out x (List.mem_of_getElem? hx)
            have z1 := HZ2.out y (List.mem_of_getElem? hy)
            have hgl : g < W2.heap.size := World.block_lt_of_cell? W2 (a := ⟨g, o + k * 2, none⟩) r1
            have hhl : h < W2.heap.size := World.block_lt_of_cell? W2 (a := ⟨h, q + k * 2, none⟩) r3
            have gl1 : g < wr.heap.size := by omega
            have gl2 : h < wr.heap.size := by omega
            have m1 := (hbr.cell (p := ⟨g, o + k * 2, none⟩) hgl).trans r1
            have m2 := (hbr.cell (p := ⟨g, o + k * 2 + 1, none⟩) hgl).trans r2
            have d1 := (hbr.cell (p := ⟨h, q + k * 2, none⟩) hhl).trans r3
            have d2 := (hbr.cell (p := ⟨h, q + k * 2 + 1, none⟩) hhl).trans r4
            have l1 : (lnsX L)[k]? = some x.ln := by rw [lnsX_getElem?, hx]; rfl
            have l2 : (lnsX M)[k]? = some y.ln := by rw [lnsX_getElem?, hy]; rfl
            obtain ⟨xg, xA, xc, xns⟩ := x
            obtain ⟨yg, yA, yc, yns⟩ := y
            simp only at m1 m2 d1 d2 hs0 hs1 z0 z1
            have k1 : (k : Int) < (L.length : Int) := by omega
            have Q1 := Lib.hid l1
            have Q2 := Lib.hid l2
            have S0 := Lib.hid (hs0.below hbr)
            have S1 := Lib.hid (hs1.below hbr)
            clear hx hy hr hr2 r1 r2 r3 r4 hs0 hs1 l1 l2
            by_cases hgg : xg = yg
            · subst hgg
              have HST := Lib.hid (fun (W : World) (hb : Below wr.heap.size wr W) => sametexts_any xns yns xA yA xc yc W (S0.out.below hb) (S1.out.below hb) z0 z1)
              by_cases hnn : xns = yns
              · rw [decide_eq_true hnn] at HST
                have HNN := Lib.hid hnn
                clear hnn
                go_wp2_with fail
                refine wp_region_held_drew (S := (fun w' => w'.cell? ⟨B, 1, none⟩ = some (.slice (some ⟨g, o, none⟩) L.length c) ∧ w'.cell? ⟨B + 1, 1, none⟩ = some (.slice (some ⟨h, q, none⟩) L.length c2) ∧ w'.cell? ⟨g, o + k * 2, none⟩ = some (.string xg) ∧ w'.cell? ⟨g, o + k * 2 + 1, none⟩ = some (.slice xA xns.length xc) ∧ w'.cell? ⟨h, q + k * 2, none⟩ = some (.string xg) ∧ w'.cell? ⟨h, q + k * 2 + 1, none⟩ = some (.slice yA yns.length yc))) (by kernel_rfl) ⟨c0, c0b, m1, m2, d1, d2⟩ (fun hHeld => ?_)
                refine wpAnyH_take (i := 0) (v := ?va0) rfl (by kernel_rfl) (by kernel_rfl) (by kernel_rfl) (fun _ _ _ h => h) (Or.inl ⟨by rfl, ?ya0⟩) (by assumption) ?ra0
                case ya0 =>
                  intro w hSw
                  (try dsimp only at hSw)
                  go_simp
                  first | done | with_reducible rfl
                try simp only [Act.put, List.getElem_toArray, List.getElem_cons_zero, List.setIfInBounds_toArray, List.set_cons_zero, List.set_cons_succ]
                refine wpAnyH_take (i := 1) (v := ?va1) rfl (by kernel_rfl) (by kernel_rfl) (by kernel_rfl) (fun _ _ _ h => h) (Or.inl ⟨by rfl, ?ya1⟩) (by assumption) ?ra1
                case ya1 =>
                  intro w hSw
                  (try dsimp only at hSw)
                  go_simp
                  first | done | with_reducible rfl
                try simp only [Act.put, List.getElem_toArray, List.getElem_cons_zero, List.getElem_cons_succ, List.setIfInBounds_toArray, List.set_cons_zero, List.set_cons_succ]
                refine wpAnyH_take (i := 2) (v := ?va2) rfl (by kernel_rfl) (by kernel_rfl) (by kernel_rfl) (fun _ _ _ h => h) (Or.inl ⟨by rfl, ?ya2⟩) (by assumption) ?ra2
                case ya2 =>
                  intro w hSw
                  (try dsimp only at hSw)
                  go_simp
                  first | done | with_reducible rfl
                try simp only [Act.put, List.getElem_toArray, List.getElem_cons_zero, List.getElem_cons_succ, List.setIfInBounds_toArray, List.set_cons_zero, List.set_cons_succ]
                refine wpAnyH_take (i := 3) (v := ?va3) rfl (by kernel_rfl) (by kernel_rfl) (by kernel_rfl) (fun _ _ _ h => h) (Or.inl ⟨by rfl, ?ya3⟩) (by assumption) ?ra3
                case ya3 =>
                  intro w hSw
                  (try dsimp only at hSw)
                  go_simp
                  first | done | with_reducible rfl
                try simp only [Act.put, List.getElem_toArray, List.getElem_cons_zero, List.getElem_cons_succ, List.setIfInBounds_toArray, List.set_cons_zero, List.set_cons_succ]
                refine wpAnyH_take (i := 4) (v := ?va4) rfl (by kernel_rfl) (by kernel_rfl) (by kernel_rfl) (fun _ _ _ h => h) (Or.inl ⟨by rfl, ?ya4⟩) (by assumption) ?ra4
                case ya4 =>
                  intro w hSw
                  (try dsimp only at hSw)
                  go_simp
                  first | done | with_reducible rfl
                try simp only [Act.put, List.getElem_toArray, List.getElem_cons_zero, List.getElem_cons_succ, List.setIfInBounds_toArray, List.set_cons_zero, List.set_cons_succ]
                refine wpAnyH_take (i := 5) (v := ?va5) rfl (by kernel_rfl) (by kernel_rfl) (by kernel_rfl) (fun _ _ _ h => h) (Or.inl ⟨by rfl, ?ya5⟩) (by assumption) ?ra5
                case ya5 =>
                  intro w hSw
                  (try dsimp only at hSw)
                  go_simp
                  first | done | with_reducible rfl
                try simp only [Act.put, List.getElem_toArray, List.getElem_cons_zero, List.getElem_cons_succ, List.setIfInBounds_toArray, List.set_cons_zero, List.set_cons_succ]
                refine wpAnyH_take (i := 6) (v := ?va6) rfl (by kernel_rfl) (by kernel_rfl) (by kernel_rfl) (fun _ _ _ h => h) (Or.inl ⟨by rfl, ?ya6⟩) (by assumption) ?ra6
                case ya6 =>
                  intro w hSw
                  (try dsimp only at hSw)
                  go_simp
                  first | done | with_reducible rfl
                try simp only [Act.put, List.getElem_toArray, List.getElem_cons_zero, List.getElem_cons_succ, List.setIfInBounds_toArray, List.set_cons_zero, List.set_cons_succ]
                refine wpAnyH_take (i := 7) (v := ?va7) rfl (by kernel_rfl) (by kernel_rfl) (by kernel_rfl) (fun _ _ _ h => h) (Or.inl ⟨by rfl, ?ya7⟩) (by assumption) ?ra7
                case ya7 =>
                  intro w hSw
                  (try dsimp only at hSw)
                  go_simp
                  first | done | with_reducible rfl
                try simp only [Act.put, List.getElem_toArray, List.getElem_cons_zero, List.getElem_cons_succ, List.setIfInBounds_toArray, List.set_cons_zero, List.set_cons_succ]
                refine wpAnyH_take (i := 8) (v := ?va8) rfl (by kernel_rfl) (by kernel_rfl) (by kernel_rfl) (fun _ _ _ h => h) (Or.inl ⟨by rfl, ?ya8⟩) (by assumption) ?ra8
                case ya8 =>
                  intro w hSw
                  (try dsimp only at hSw)
                  go_simp
                  first | done | with_reducible rfl
                try simp only [Act.put, List.getElem_toArray, List.getElem_cons_zero, List.getElem_cons_succ, List.setIfInBounds_toArray, List.set_cons_zero, List.set_cons_succ]
                refine wpAnyH_take (i := 9) (v := ?va9) rfl (by kernel_rfl) (by kernel_rfl) (by kernel_rfl) (fun _ _ _ h => h) (Or.inl ⟨by rfl, ?ya9⟩) (by assumption) ?ra9
                case ya9 =>
                  intro w hSw
                  (try dsimp only at hSw)
                  go_simp
                  first | done | with_reducible rfl
                try simp only [Act.put, List.getElem_toArray, List.getElem_cons_zero, List.getElem_cons_succ, List.setIfInBounds_toArray, List.set_cons_zero, List.set_cons_succ]
                refine wpAnyH_take (i := 10) (v := ?va10) rfl (by kernel_rfl) (by kernel_rfl) (by kernel_rfl) (fun _ _ _ h => h) (Or.inl ⟨by rfl, ?ya10⟩) (by assumption) ?ra10
                case ya10 =>
                  intro w hSw
                  (try dsimp only at hSw)
                  go_simp
                  first | done | with_reducible rfl
                try simp only [Act.put, List.getElem_toArray, List.getElem_cons_zero, List.getElem_cons_succ, List.setIfInBounds_toArray, List.set_cons_zero, List.set_cons_succ]
                refine wpAnyH_take (i := 11) (v := ?va11) rfl (by kernel_rfl) (by kernel_rfl) (by kernel_rfl) (fun _ _ _ h => h) (Or.inl ⟨by rfl, ?ya11⟩) (by assumption) ?ra11
                case ya11 =>
                  intro w hSw
                  (try dsimp only at hSw)
                  go_simp
                  first | done | with_reducible rfl
                try simp only [Act.put, List.getElem_toArray, List.getElem_cons_zero, List.getElem_cons_succ, List.setIfInBounds_toArray, List.set_cons_zero, List.set_cons_succ]
                refine wpAnyH_take (i := 12) (v := ?va12) rfl (by kernel_rfl) (by kernel_rfl) (by kernel_rfl) (fun _ _ _ h => h) (Or.inl ⟨by rfl, ?ya12⟩) (by assumption) ?ra12
                case ya12 =>
                  intro w hSw
                  (try dsimp only at hSw)
                  go_simp
                  first | done | with_reducible rfl
                try simp only [Act.put, List.getElem_toArray, List.getElem_cons_zero, List.getElem_cons_succ, List.setIfInBounds_toArray, List.set_cons_zero, List.set_cons_succ]
                refine wpAnyH_take (i := 13) (v := ?va13) rfl (by kernel_rfl) (by kernel_rfl) (by kernel_rfl) (fun _ _ _ h => h) (Or.inl ⟨by rfl, ?ya13⟩) (by assumption) ?ra13
                case ya13 =>
                  intro w hSw
                  (try dsimp only at hSw)
                  go_simp
                  first | done | with_reducible rfl
                try simp only [Act.put, List.getElem_toArray, List.getElem_cons_zero, List.getElem_cons_succ, List.setIfInBounds_toArray, List.set_cons_zero, List.set_cons_succ]
                refine wpAnyH_take (i := 14) (v := ?va14) rfl (by kernel_rfl) (by kernel_rfl) (by kernel_rfl) (fun _ _ _ h => h) (Or.inl ⟨by rfl, ?ya14⟩) (by assumption) ?ra14
                case ya14 =>
                  intro w hSw
                  (try dsimp only at hSw)
                  go_simp
                  first | done | with_reducible rfl
                try simp only [Act.put, List.getElem_toArray, List.getElem_cons_zero, List.getElem_cons_succ, List.setIfInBounds_toArray, List.set_cons_zero, List.set_cons_succ]
                refine wpAnyH_take (i := 15) (v := ?va15) rfl (by kernel_rfl) (by kernel_rfl) (by kernel_rfl) (fun _ _ _ h => h) (Or.inl ⟨by rfl, ?ya15⟩) (by assumption) ?ra15
                case ya15 =>
                  intro w hSw
                  (try dsimp only at hSw)
                  go_simp
                  first | done | with_reducible rfl
                try simp only [Act.put, List.getElem_toArray, List.getElem_cons_zero, List.getElem_cons_succ, List.setIfInBounds_toArray, List.set_cons_zero, List.set_cons_succ]
                refine wpAnyH_take (i := 16) (v := ?va16) rfl (by kernel_rfl) (by kernel_rfl) (by kernel_rfl) (fun _ _ _ h => h) (Or.inl ⟨by rfl, ?ya16⟩) (by assumption) ?ra16
                case ya16 =>
                  intro w hSw
                  (try dsimp only at hSw)
                  go_simp
                  first | done | with_reducible rfl
                try simp only [Act.put, List.getElem_toArray, List.getElem_cons_zero, List.getElem_cons_succ, List.setIfInBounds_toArray, List.set_cons_zero, List.set_cons_succ]
                refine wpAnyH_take (i := 17) (v := ?va17) rfl (by kernel_rfl) (by kernel_rfl) (by kernel_rfl) (fun _ _ _ h => h) (Or.inl ⟨by rfl, ?ya17⟩) (by assumption) ?ra17
                case ya17 =>
                  intro w hSw
                  (try dsimp only at hSw)
                  go_simp
                  first | done | with_reducible rfl
                try simp only [Act.put, List.getElem_toArray, List.getElem_cons_zero, List.getElem_cons_succ, List.setIfInBounds_toArray, List.set_cons_zero, List.set_cons_succ]
                refine wpAnyH_take (i := 18) (v := ?va18) rfl (by kernel_rfl) (by kernel_rfl) (by kernel_rfl) (fun _ _ _ h => h) (Or.inl ⟨by rfl, ?ya18⟩) (by assumption) ?ra18
                case ya18 =>
                  intro w hSw
                  (try dsimp only at hSw)
                  go_simp
                  first | done | with_reducible rfl
                try simp only [Act.put, List.getElem_toArray, List.getElem_cons_zero, List.getElem_cons_succ, List.setIfInBounds_toArray, List.set_cons_zero, List.set_cons_succ]
                refine wpAnyH_take (i := 19) (v := ?va19) rfl (by kernel_rfl) (by kernel_rfl) (by kernel_rfl) (fun _ _ _ h => h) (Or.inl ⟨by rfl, ?ya19⟩) (by assumption) ?ra19
                case ya19 =>
                  intro w hSw
                  (try dsimp only at hSw)
                  go_simp
                  first | done | with_reducible rfl
                try simp only [Act.put, List.getElem_toArray, List.getElem_cons_zero, List.getElem_cons_succ, List.setIfInBounds_toArray, List.set_cons_zero, List.set_cons_succ]
                refine wpAnyH_take (i := 20) (v := ?va20) rfl (by kernel_rfl) (by kernel_rfl) (by kernel_rfl) (fun _ _ _ h => h) (Or.inl ⟨by rfl, ?ya20⟩) (by assumption) ?ra20
                case ya20 =>
                  intro w hSw
                  (try dsimp only at hSw)
                  go_simp
                  first | done | with_reducible rfl
                try simp only [Act.put, List.getElem_toArray, List.getElem_cons_zero, List.getElem_cons_succ, List.setIfInBounds_toArray, List.set_cons_zero, List.set_cons_succ]
                refine wpAnyH_take (i := 21) (v := ?va21) rfl (by kernel_rfl) (by kernel_rfl) (by kernel_rfl) (fun _ _ _ h => h) (Or.inl ⟨by rfl, ?ya21⟩) (by assumption) ?ra21
                case ya21 =>
                  intro w hSw
                  (try dsimp only at hSw)
                  go_simp
                  first | done | with_reducible rfl
                try simp only [Act.put, List.getElem_toArray, List.getElem_cons_zero, List.getElem_cons_succ, List.setIfInBounds_toArray, List.set_cons_zero, List.set_cons_succ]
                refine wpAnyH_take (i := 22) (v := ?va22) rfl (by kernel_rfl) (by kernel_rfl) (by kernel_rfl) (fun _ _ _ h => h) (Or.inl ⟨by rfl, ?ya22⟩) (by assumption) ?ra22
                case ya22 =>
                  intro w hSw
                  (try dsimp only at hSw)
                  go_simp
                  first | done | with_reducible rfl
                try simp only [Act.put, List.getElem_toArray, List.getElem_cons_zero, List.getElem_cons_succ, List.setIfInBounds_toArray, List.set_cons_zero, List.set_cons_succ]
                refine wpAnyH_take (i := 23) (v := ?va23) rfl (by kernel_rfl) (by kernel_rfl) (by kernel_rfl) (fun _ _ _ h => h) (Or.inl ⟨by rfl, ?ya23⟩) (by assumption) ?ra23
                case ya23 =>
                  intro w hSw
                  (try dsimp only at hSw)
                  go_simp
                  first | done | with_reducible rfl
                try simp only [Act.put, List.getElem_toArray, List.getElem_cons_zero, List.getElem_cons_succ, List.setIfInBounds_toArray, List.set_cons_zero, List.set_cons_succ]
                refine wpAnyH_take (i := 24) (v := ?va24) rfl (by kernel_rfl) (by kernel_rfl) (by kernel_rfl) (fun _ _ _ h => h) (Or.inl ⟨by rfl, ?ya24⟩) (by assumption) ?ra24
                case ya24 =>
                  intro w hSw
                  (try dsimp only at hSw)
                  go_simp
                  first | done | with_reducible rfl
                try simp only [Act.put, List.getElem_toArray, List.getElem_cons_zero, List.getElem_cons_succ, List.setIfInBounds_toArray, List.set_cons_zero, List.set_cons_succ]
                refine wpAnyH_take (i := 25) (v := ?va25) rfl (by kernel_rfl) (by kernel_rfl) (by kernel_rfl) (fun _ _ _ h => h) (Or.inl ⟨by rfl, ?ya25⟩) (by assumption) ?ra25
                case ya25 =>
                  intro w hSw
                  (try dsimp only at hSw)
                  go_simp
                  first | done | with_reducible rfl
                try simp only [Act.put, List.getElem_toArray, List.getElem_cons_zero, List.getElem_cons_succ, List.setIfInBounds_toArray, List.set_cons_zero, List.set_cons_succ]
                refine wpAnyH_ready (rs := [26]) (by kernel_rfl) (by simp) ?_
                refine AllReadyH.cons rfl (fun K hK => ?_) AllReadyH.nil
                go_simp
                refine (HST.out _ ((Below.refl _ wr).drew)).mono ?_
                rintro e w2 ⟨rfl, hq2⟩
                have hb2 : Below wr.heap.size wr w2 := ((Below.refl _ wr).drew).trans hq2
                have hbw2 := hbr.trans (hb2.mono hsz)
                go_wp2_with fail
                refine hK.out _ _ ⟨(hbw2.cell (p := ⟨B, 1, none⟩) (World.block_lt_of_cell? W2 (a := ⟨B, 1, none⟩) C0.out)).trans C0.out, (hbw2.cell (p := ⟨B + 1, 1, none⟩) (World.block_lt_of_cell? W2 (a := ⟨B + 1, 1, none⟩) C1.out)).trans C1.out, (hb2.cell (p := ⟨g, o + k * 2, none⟩) gl1).trans m1, (hb2.cell (p := ⟨g, o + k * 2 + 1, none⟩) gl1).trans m2, (hb2.cell (p := ⟨h, q + k * 2, none⟩) gl2).trans d1, (hb2.cell (p := ⟨h, q + k * 2 + 1, none⟩) gl2).trans d2⟩ (fun hHeld => ?_)
                clear hK K
                try simp only [Act.put, List.getElem_toArray, List.getElem_cons_zero, List.getElem_cons_succ, List.setIfInBounds_toArray, List.set_cons_zero, List.set_cons_succ]
                refine wpAnyH_take (i := 27) (v := ?va27) rfl (by kernel_rfl) (by kernel_rfl) (by kernel_rfl) (fun _ _ _ h => h) (Or.inl ⟨by rfl, ?ya27⟩) (by assumption) ?ra27
                case ya27 =>
                  intro w hSw
                  (try dsimp only at hSw)
                  go_simp
                  first | done | with_reducible rfl
                try simp only [Act.put, List.getElem_toArray, List.getElem_cons_zero, List.getElem_cons_succ, List.setIfInBounds_toArray, List.set_cons_zero, List.set_cons_succ]
                refine wpAnyH_take (i := 28) (v := ?va28) rfl (by kernel_rfl) (by kernel_rfl) (by kernel_rfl) (fun _ _ _ h => h) (Or.inl ⟨by rfl, ?ya28⟩) (by assumption) ?ra28
                case ya28 =>
                  intro w hSw
                  (try dsimp only at hSw)
                  go_simp
                  first | done | with_reducible rfl
                try simp only [Act.put, List.getElem_toArray, List.getElem_cons_zero, List.getElem_cons_succ, List.setIfInBounds_toArray, List.set_cons_zero, List.set_cons_succ]
                refine wpAnyH_done (by kernel_rfl) ?_ _
                go_wp2_with fail
                go_roundw
                case rel =>
                  refine ⟨k + 1, by omega, by go_num, fun j hj => ?_, hbw2⟩
                  by_cases e : j = k
                  · subst e; rw [Q1.out, Q2.out]; show some (xg.data.toList, xns) = some (xg.data.toList, yns); rw [HNN.out]
                  · exact HALL.out j (by omega)
                case measure => simp [intOf]; omega
              · rw [decide_eq_false hnn] at HST
                have hd : ∀ b : Bool, decide ((b, lnsX L) = (b, lnsX M)) = false := fun b => decide_eq_false (fun e => hnn (by
                  have := congrArg (fun x : Ow => x.2[k]?) e
                  simp only [Q1.out, Q2.out, Option.some.injEq] at this
                  exact congrArg Prod.snd this))
                have HD : Hid (Rz = false) := HRZ.out.symm.trans (hd _)
                clear hnn hd HRZ
                go_wp2_with fail
                refine wp_region_held_drew (S := (fun w' => w'.cell? ⟨B, 1, none⟩ = some (.slice (some ⟨g, o, none⟩) L.length c) ∧ w'.cell? ⟨B + 1, 1, none⟩ = some (.slice (some ⟨h, q, none⟩) L.length c2) ∧ w'.cell? ⟨g, o + k * 2, none⟩ = some (.string xg) ∧ w'.cell? ⟨g, o + k * 2 + 1, none⟩ = some (.slice xA xns.length xc) ∧ w'.cell? ⟨h, q + k * 2, none⟩ = some (.string xg) ∧ w'.cell? ⟨h, q + k * 2 + 1, none⟩ = some (.slice yA yns.length yc))) (by kernel_rfl) ⟨c0, c0b, m1, m2, d1, d2⟩ (fun hHeld => ?_)
                refine wpAnyH_take (i := 0) (v := ?vb0) rfl (by kernel_rfl) (by kernel_rfl) (by kernel_rfl) (fun _ _ _ h => h) (Or.inl ⟨by rfl, ?yb0⟩) (by assumption) ?rb0
                case yb0 =>
                  intro w hSw
                  (try dsimp only at hSw)
                  go_simp
                  first | done | with_reducible rfl
                try simp only [Act.put, List.getElem_toArray, List.getElem_cons_zero, List.setIfInBounds_toArray, List.set_cons_zero, List.set_cons_succ]
                refine wpAnyH_take (i := 1) (v := ?vb1) rfl (by kernel_rfl) (by kernel_rfl) (by kernel_rfl) (fun _ _ _ h => h) (Or.inl ⟨by rfl, ?yb1⟩) (by assumption) ?rb1
                case yb1 =>
                  intro w hSw
                  (try dsimp only at hSw)
                  go_simp
                  first | done | with_reducible rfl
                try simp only [Act.put, List.getElem_toArray, List.getElem_cons_zero, List.getElem_cons_succ, List.setIfInBounds_toArray, List.set_cons_zero, List.set_cons_succ]
                refine wpAnyH_take (i := 2) (v := ?vb2) rfl (by kernel_rfl) (by kernel_rfl) (by kernel_rfl) (fun _ _ _ h => h) (Or.inl ⟨by rfl, ?yb2⟩) (by assumption) ?rb2
                case yb2 =>
                  intro w hSw
                  (try dsimp only at hSw)
                  go_simp
                  first | done | with_reducible rfl
                try simp only [Act.put, List.getElem_toArray, List.getElem_cons_zero, List.getElem_cons_succ, List.setIfInBounds_toArray, List.set_cons_zero, List.set_cons_succ]
                refine wpAnyH_take (i := 3) (v := ?vb3) rfl (by kernel_rfl) (by kernel_rfl) (by kernel_rfl) (fun _ _ _ h => h) (Or.inl ⟨by rfl, ?yb3⟩) (by assumption) ?rb3
                case yb3 =>
                  intro w hSw
                  (try dsimp only at hSw)
                  go_simp
                  first | done | with_reducible rfl
                try simp only [Act.put, List.getElem_toArray, List.getElem_cons_zero, List.getElem_cons_succ, List.setIfInBounds_toArray, List.set_cons_zero, List.set_cons_succ]
                refine wpAnyH_take (i := 4) (v := ?vb4) rfl (by kernel_rfl) (by kernel_rfl) (by kernel_rfl) (fun _ _ _ h => h) (Or.inl ⟨by rfl, ?yb4⟩) (by assumption) ?rb4
                case yb4 =>
                  intro w hSw
                  (try dsimp only at hSw)
                  go_simp
                  first | done | with_reducible rfl
                try simp only [Act.put, List.getElem_toArray, List.getElem_cons_zero, List.getElem_cons_succ, List.setIfInBounds_toArray, List.set_cons_zero, List.set_cons_succ]
                refine wpAnyH_take (i := 5) (v := ?vb5) rfl (by kernel_rfl) (by kernel_rfl) (by kernel_rfl) (fun _ _ _ h => h) (Or.inl ⟨by rfl, ?yb5⟩) (by assumption) ?rb5
                case yb5 =>
                  intro w hSw
                  (try dsimp only at hSw)
                  go_simp
                  first | done | with_reducible rfl
                try simp only [Act.put, List.getElem_toArray, List.getElem_cons_zero, List.getElem_cons_succ, List.setIfInBounds_toArray, List.set_cons_zero, List.set_cons_succ]
                refine wpAnyH_take (i := 6) (v := ?vb6) rfl (by kernel_rfl) (by kernel_rfl) (by kernel_rfl) (fun _ _ _ h => h) (Or.inl ⟨by rfl, ?yb6⟩) (by assumption) ?rb6
                case yb6 =>
                  intro w hSw
                  (try dsimp only at hSw)
                  go_simp
                  first | done | with_reducible rfl
                try simp only [Act.put, List.getElem_toArray, List.getElem_cons_zero, List.getElem_cons_succ, List.setIfInBounds_toArray, List.set_cons_zero, List.set_cons_succ]
                refine wpAnyH_take (i := 7) (v := ?vb7) rfl (by kernel_rfl) (by kernel_rfl) (by kernel_rfl) (fun _ _ _ h => h) (Or.inl ⟨by rfl, ?yb7⟩) (by assumption) ?rb7
                case yb7 =>
                  intro w hSw
                  (try dsimp only at hSw)
                  go_simp
                  first | done | with_reducible rfl
                try simp only [Act.put, List.getElem_toArray, List.getElem_cons_zero, List.getElem_cons_succ, List.setIfInBounds_toArray, List.set_cons_zero, List.set_cons_succ]
                refine wpAnyH_take (i := 8) (v := ?vb8) rfl (by kernel_rfl) (by kernel_rfl) (by kernel_rfl) (fun _ _ _ h => h) (Or.inl ⟨by rfl, ?yb8⟩) (by assumption) ?rb8
                case yb8 =>
                  intro w hSw
                  (try dsimp only at hSw)
                  go_simp
                  first | done | with_reducible rfl
                try simp only [Act.put, List.getElem_toArray, List.getElem_cons_zero, List.getElem_cons_succ, List.setIfInBounds_toArray, List.set_cons_zero, List.set_cons_succ]
                refine wpAnyH_take (i := 9) (v := ?vb9) rfl (by kernel_rfl) (by kernel_rfl) (by kernel_rfl) (fun _ _ _ h => h) (Or.inl ⟨by rfl, ?yb9⟩) (by assumption) ?rb9
                case yb9 =>
                  intro w hSw
                  (try dsimp only at hSw)
                  go_simp
                  first | done | with_reducible rfl
                try simp only [Act.put, List.getElem_toArray, List.getElem_cons_zero, List.getElem_cons_succ, List.setIfInBounds_toArray, List.set_cons_zero, List.set_cons_succ]
                refine wpAnyH_take (i := 10) (v := ?vb10) rfl (by kernel_rfl) (by kernel_rfl) (by kernel_rfl) (fun _ _ _ h => h) (Or.inl ⟨by rfl, ?yb10⟩) (by assumption) ?rb10
                case yb10 =>
                  intro w hSw
                  (try dsimp only at hSw)
                  go_simp
                  first | done | with_reducible rfl
                try simp only [Act.put, List.getElem_toArray, List.getElem_cons_zero, List.getElem_cons_succ, List.setIfInBounds_toArray, List.set_cons_zero, List.set_cons_succ]
                refine wpAnyH_take (i := 11) (v := ?vb11) rfl (by kernel_rfl) (by kernel_rfl) (by kernel_rfl) (fun _ _ _ h => h) (Or.inl ⟨by rfl, ?yb11⟩) (by assumption) ?rb11
                case yb11 =>
                  intro w hSw
                  (try dsimp only at hSw)
                  go_simp
                  first | done | with_reducible rfl
                try simp only [Act.put, List.getElem_toArray, List.getElem_cons_zero, List.getElem_cons_succ, List.setIfInBounds_toArray, List.set_cons_zero, List.set_cons_succ]
                refine wpAnyH_take (i := 12) (v := ?vb12) rfl (by kernel_rfl) (by kernel_rfl) (by kernel_rfl) (fun _ _ _ h => h) (Or.inl ⟨by rfl, ?yb12⟩) (by assumption) ?rb12
                case yb12 =>
                  intro w hSw
                  (try dsimp only at hSw)
                  go_simp
                  first | done | with_reducible rfl
                try simp only [Act.put, List.getElem_toArray, List.getElem_cons_zero, List.getElem_cons_succ, List.setIfInBounds_toArray, List.set_cons_zero, List.set_cons_succ]
                refine wpAnyH_take (i := 13) (v := ?vb13) rfl (by kernel_rfl) (by kernel_rfl) (by kernel_rfl) (fun _ _ _ h => h) (Or.inl ⟨by rfl, ?yb13⟩) (by assumption) ?rb13
                case yb13 =>
                  intro w hSw
                  (try dsimp only at hSw)
                  go_simp
                  first | done | with_reducible rfl
                try simp only [Act.put, List.getElem_toArray, List.getElem_cons_zero, List.getElem_cons_succ, List.setIfInBounds_toArray, List.set_cons_zero, List.set_cons_succ]
                refine wpAnyH_take (i := 14) (v := ?vb14) rfl (by kernel_rfl) (by kernel_rfl) (by kernel_rfl) (fun _ _ _ h => h) (Or.inl ⟨by rfl, ?yb14⟩) (by assumption) ?rb14
                case yb14 =>
                  intro w hSw
                  (try dsimp only at hSw)
                  go_simp
                  first | done | with_reducible rfl
                try simp only [Act.put, List.getElem_toArray, List.getElem_cons_zero, List.getElem_cons_succ, List.setIfInBounds_toArray, List.set_cons_zero, List.set_cons_succ]
                refine wpAnyH_take (i := 15) (v := ?vb15) rfl (by kernel_rfl) (by kernel_rfl) (by kernel_rfl) (fun _ _ _ h => h) (Or.inl ⟨by rfl, ?yb15⟩) (by assumption) ?rb15
                case yb15 =>
                  intro w hSw
                  (try dsimp only at hSw)
                  go_simp
                  first | done | with_reducible rfl
                try simp only [Act.put, List.getElem_toArray, List.getElem_cons_zero, List.getElem_cons_succ, List.setIfInBounds_toArray, List.set_cons_zero, List.set_cons_succ]
                refine wpAnyH_take (i := 16) (v := ?vb16) rfl (by kernel_rfl) (by kernel_rfl) (by kernel_rfl) (fun _ _ _ h => h) (Or.inl ⟨by rfl, ?yb16⟩) (by assumption) ?rb16
                case yb16 =>
                  intro w hSw
                  (try dsimp only at hSw)
                  go_simp
                  first | done | with_reducible rfl
                try simp only [Act.put, List.getElem_toArray, List.getElem_cons_zero, List.getElem_cons_succ, List.setIfInBounds_toArray, List.set_cons_zero, List.set_cons_succ]
                refine wpAnyH_take (i := 17) (v := ?vb17) rfl (by kernel_rfl) (by kernel_rfl) (by kernel_rfl) (fun _ _ _ h => h) (Or.inl ⟨by rfl, ?yb17⟩) (by assumption) ?rb17
                case yb17 =>
                  intro w hSw
                  (try dsimp only at hSw)
                  go_simp
                  first | done | with_reducible rfl
                try simp only [Act.put, List.getElem_toArray, List.getElem_cons_zero, List.getElem_cons_succ, List.setIfInBounds_toArray, List.set_cons_zero, List.set_cons_succ]
                refine wpAnyH_take (i := 18) (v := ?vb18) rfl (by kernel_rfl) (by kernel_rfl) (by kernel_rfl) (fun _ _ _ h => h) (Or.inl ⟨by rfl, ?yb18⟩) (by assumption) ?rb18
                case yb18 =>
                  intro w hSw
                  (try dsimp only at hSw)
                  go_simp
                  first | done | with_reducible rfl
                try simp only [Act.put, List.getElem_toArray, List.getElem_cons_zero, List.getElem_cons_succ, List.setIfInBounds_toArray, List.set_cons_zero, List.set_cons_succ]
                refine wpAnyH_take (i := 19) (v := ?vb19) rfl (by kernel_rfl) (by kernel_rfl) (by kernel_rfl) (fun _ _ _ h => h) (Or.inl ⟨by rfl, ?yb19⟩) (by assumption) ?rb19
                case yb19 =>
                  intro w hSw
                  (try dsimp only at hSw)
                  go_simp
                  first | done | with_reducible rfl
                try simp only [Act.put, List.getElem_toArray, List.getElem_cons_zero, List.getElem_cons_succ, List.setIfInBounds_toArray, List.set_cons_zero, List.set_cons_succ]
                refine wpAnyH_take (i := 20) (v := ?vb20) rfl (by kernel_rfl) (by kernel_rfl) (by kernel_rfl) (fun _ _ _ h => h) (Or.inl ⟨by rfl, ?yb20⟩) (by assumption) ?rb20
                case yb20 =>
                  intro w hSw
                  (try dsimp only at hSw)
                  go_simp
                  first | done | with_reducible rfl
                try simp only [Act.put, List.getElem_toArray, List.getElem_cons_zero, List.getElem_cons_succ, List.setIfInBounds_toArray, List.set_cons_zero, List.set_cons_succ]
                refine wpAnyH_take (i := 21) (v := ?vb21) rfl (by kernel_rfl) (by kernel_rfl) (by kernel_rfl) (fun _ _ _ h => h) (Or.inl ⟨by rfl, ?yb21⟩) (by assumption) ?rb21
                case yb21 =>
                  intro w hSw
                  (try dsimp only at hSw)
                  go_simp
                  first | done | with_reducible rfl
                try simp only [Act.put, List.getElem_toArray, List.getElem_cons_zero, List.getElem_cons_succ, List.setIfInBounds_toArray, List.set_cons_zero, List.set_cons_succ]
                refine wpAnyH_take (i := 22) (v := ?vb22) rfl (by kernel_rfl) (by kernel_rfl) (by kernel_rfl) (fun _ _ _ h => h) (Or.inl ⟨by rfl, ?yb22⟩) (by assumption) ?rb22
                case yb22 =>
                  intro w hSw
                  (try dsimp only at hSw)
                  go_simp
                  first | done | with_reducible rfl
                try simp only [Act.put, List.getElem_toArray, List.getElem_cons_zero, List.getElem_cons_succ, List.setIfInBounds_toArray, List.set_cons_zero, List.set_cons_succ]
                refine wpAnyH_take (i := 23) (v := ?vb23) rfl (by kernel_rfl) (by kernel_rfl) (by kernel_rfl) (fun _ _ _ h => h) (Or.inl ⟨by rfl, ?yb23⟩) (by assumption) ?rb23
                case yb23 =>
                  intro w hSw
                  (try dsimp only at hSw)
                  go_simp
                  first | done | with_reducible rfl
                try simp only [Act.put, List.getElem_toArray, List.getElem_cons_zero, List.getElem_cons_succ, List.setIfInBounds_toArray, List.set_cons_zero, List.set_cons_succ]
                refine wpAnyH_take (i := 24) (v := ?vb24) rfl (by kernel_rfl) (by kernel_rfl) (by kernel_rfl) (fun _ _ _ h => h) (Or.inl ⟨by rfl, ?yb24⟩) (by assumption) ?rb24
                case yb24 =>
                  intro w hSw
                  (try dsimp only at hSw)
                  go_simp
                  first | done | with_reducible rfl
                try simp only [Act.put, List.getElem_toArray, List.getElem_cons_zero, List.getElem_cons_succ, List.setIfInBounds_toArray, List.set_cons_zero, List.set_cons_succ]
                refine wpAnyH_take (i := 25) (v := ?vb25) rfl (by kernel_rfl) (by kernel_rfl) (by kernel_rfl) (fun _ _ _ h => h) (Or.inl ⟨by rfl, ?yb25⟩) (by assumption) ?rb25
                case yb25 =>
                  intro w hSw
                  (try dsimp only at hSw)
                  go_simp
                  first | done | with_reducible rfl
                try simp only [Act.put, List.getElem_toArray, List.getElem_cons_zero, List.getElem_cons_succ, List.setIfInBounds_toArray, List.set_cons_zero, List.set_cons_succ]
                refine wpAnyH_ready (rs := [26]) (by kernel_rfl) (by simp) ?_
                refine AllReadyH.cons rfl (fun K hK => ?_) AllReadyH.nil
                go_simp
                refine (HST.out _ ((Below.refl _ wr).drew)).mono ?_
                rintro e w2 ⟨rfl, hq2⟩
                have hb2 : Below wr.heap.size wr w2 := ((Below.refl _ wr).drew).trans hq2
                have hbw2 := hbr.trans (hb2.mono hsz)
                go_wp2_with fail
                refine hK.out _ _ ⟨(hbw2.cell (p := ⟨B, 1, none⟩) (World.block_lt_of_cell? W2 (a := ⟨B, 1, none⟩) C0.out)).trans C0.out, (hbw2.cell (p := ⟨B + 1, 1, none⟩) (World.block_lt_of_cell? W2 (a := ⟨B + 1, 1, none⟩) C1.out)).trans C1.out, (hb2.cell (p := ⟨g, o + k * 2, none⟩) gl1).trans m1, (hb2.cell (p := ⟨g, o + k * 2 + 1, none⟩) gl1).trans m2, (hb2.cell (p := ⟨h, q + k * 2, none⟩) gl2).trans d1, (hb2.cell (p := ⟨h, q + k * 2 + 1, none⟩) gl2).trans d2⟩ (fun hHeld => ?_)
                clear hK K
                try simp only [Act.put, List.getElem_toArray, List.getElem_cons_zero, List.getElem_cons_succ, List.setIfInBounds_toArray, List.set_cons_zero, List.set_cons_succ]
                refine wpAnyH_take (i := 27) (v := ?vb27) rfl (by kernel_rfl) (by kernel_rfl) (by kernel_rfl) (fun _ _ _ h => h) (Or.inl ⟨by rfl, ?yb27⟩) (by assumption) ?rb27
                case yb27 =>
                  intro w hSw
                  (try dsimp only at hSw)
                  go_simp
                  first | done | with_reducible rfl
                try simp only [Act.put, List.getElem_toArray, List.getElem_cons_zero, List.getElem_cons_succ, List.setIfInBounds_toArray, List.set_cons_zero, List.set_cons_succ]
                refine wpAnyH_take (i := 28) (v := ?vb28) rfl (by kernel_rfl) (by kernel_rfl) (by kernel_rfl) (fun _ _ _ h => h) (Or.inl ⟨by rfl, ?yb28⟩) (by assumption) ?rb28
                case yb28 =>
                  intro w hSw
                  (try dsimp only at hSw)
                  go_simp
                  first | done | with_reducible rfl
                try simp only [Act.put, List.getElem_toArray, List.getElem_cons_zero, List.getElem_cons_succ, List.setIfInBounds_toArray, List.set_cons_zero, List.set_cons_succ]
                refine wpAnyH_done (by kernel_rfl) ?_ _
                go_wp2_with fail
                go_ret
                exact ⟨by rw [HD.out]; rfl, HBW.out.trans (hbw2.mono HBW.out.size)⟩
            · have hd : ∀ b : Bool, decide ((b, lnsX L) = (b, lnsX M)) = false := fun b => decide_eq_false (fun e => hgg (by
                have := congrArg (fun x : Ow => x.2[k]?) e
                simp only [Q1.out, Q2.out, Option.some.injEq] at this
                have := congrArg Prod.fst this
                have h2 : mkB xg.data.toList = mkB yg.data.toList := congrArg mkB this
                rwa [data_mkB, data_mkB] at h2))
              have HD : Hid (Rz = false) := HRZ.out.symm.trans (hd _)
              have q1 : (xg.toList == yg.toList) = false := by
                rw [beq_eq_false_iff_ne]; intro e
                apply hgg
                rw [ByteArray.toList_eq, ByteArray.toList_eq] at e
                have h2 : mkB xg.data.toList = mkB yg.data.toList := congrArg mkB e
                rwa [data_mkB, data_mkB] at h2
              have q2 : (xg.toList != yg.toList) = true := by unfold bne; rw [q1]; rfl
              clear hgg hd HRZ
              go_wp2_with fail
              go_quiet (fail)
              go_wp2_with fail
              go_ret
              exact ⟨by rw [HD.out]; rfl, HBW.out.trans ((belowQ hbr _).mono HBW.out.size)⟩
          · obtain rfl : k = L.length := by omega
            have hd : ∀ b : Bool, decide ((b, lnsX L) = (b, lnsX M)) = true := fun b => decide_eq_true (by
              have : lnsX L = lnsX M := List.ext_getElem? fun j => by
                by_cases e : j < L.length
                · exact HALL.out j e
                · rw [List.getElem?_eq_none (by rw [lnsX_length]; omega), List.getElem?_eq_none (by rw [lnsX_length, ← HLM.out]; omega)]
              rw [this])
            have HD : Hid (Rz = true) := HRZ.out.symm.trans (hd _)
            clear hd HRZ
            go_wp2_with fail
            go_ret
            exact ⟨by rw [HD.out]; rfl, HBW.out.trans (hbr.mono HBW.out.size)⟩
      | true =>
        go_wp2_with fail
        go_loopw [5] (fun v5 wr => ∃ k : Nat, k ≤ L.length ∧ v5 = .int .i64 k ∧ Hid (∀ j, j < k → (lnsX L)[j]? = (lnsX M)[j]?) ∧ Below W2.heap.size W2 wr) (fun v5 _ => L.length - (intOf v5).toNat)
        case atStart => exact ⟨0, Nat.zero_le _, rfl, fun j hj => absurd hj (Nat.not_lt_zero _), Below.refl _ _⟩
        case round =>
          obtain ⟨k, hk, rfl, HALL, hbr⟩ := hrel
          clear c0 c0b e0 e0b
          have hsz := hbr.size
          have c0 := (hbr.cell (p := ⟨B, 1, none⟩) (World.block_lt_of_cell? W2 (a := ⟨B, 1, none⟩) C0.out)).trans C0.out
          have c0b := (hbr.cell (p := ⟨B + 1, 1, none⟩) (World.block_lt_of_cell? W2 (a := ⟨B + 1, 1, none⟩) C1.out)).trans C1.out
          by_cases h1 : k < L.length
          · obtain ⟨x, hx⟩ : ∃ x, L[k]? = some x := ⟨_, List.getElem?_eq_getElem h1⟩
            obtain ⟨y, hy⟩ : ∃ y, M[k]? = some y := ⟨_, List.getElem?_eq_getElem (by have := HLM.out; omega)⟩
            obtain ⟨g, o, rfl, hr⟩ := HL.out.row (by omega)
            obtain ⟨h, q, rfl, hr2⟩ := HM.out.row (by have := HLM.out; omega)
            obtain ⟨r1, r2⟩ := hr k x hx
            obtain ⟨r3, r4⟩ := hr2 k y hy
            obtain ⟨hs0, _, _⟩ := HL.out.own x (List.mem_of_getElem? hx)
            obtain ⟨hs1, _, _⟩ := HM.out.own y (List.mem_of_getElem? hy)
            have z0 := HZ.out x (List.mem_of_getElem? hx)
            have z1 := HZ2.out y (List.mem_of_getElem? hy)
            have hgl : g < W2.heap.size := World.block_lt_of_cell? W2 (a := ⟨g, o + k * 2, none⟩) r1
            have hhl : h < W2.heap.size := World.block_lt_of_cell? W2 (a := ⟨h, q + k * 2, none⟩) r3
            have gl1 : g < wr.heap.size := by omega
            have gl2 : h < wr.heap.size := by omega
            have m1 := (hbr.cell (p := ⟨g, o + k * 2, none⟩) hgl).trans r1
            have m2 := (hbr.cell (p := ⟨g, o + k * 2 + 1, none⟩) hgl).trans r2
            have d1 := (hbr.cell (p := ⟨h, q + k * 2, none⟩) hhl).trans r3
            have d2 := (hbr.cell (p := ⟨h, q + k * 2 + 1, none⟩) hhl).trans r4
            have l1 : (lnsX L)[k]? = some x.ln := by rw [lnsX_getElem?, hx]; rfl
            have l2 : (lnsX M)[k]? = some y.ln := by rw [lnsX_getElem?, hy]; rfl
            obtain ⟨xg, xA, xc, xns⟩ := x
            obtain ⟨yg, yA, yc, yns⟩ := y
            simp only at m1 m2 d1 d2 hs0 hs1 z0 z1
            have k1 : (k : Int) < (L.length : Int) := by omega
            have Q1 := Lib.hid l1
            have Q2 := Lib.hid l2
            have S0 := Lib.hid (hs0.below hbr)
            have S1 := Lib.hid (hs1.below hbr)
            clear hx hy hr hr2 r1 r2 r3 r4 hs0 hs1 l1 l2
            by_cases hgg : xg = yg
            · subst hgg
              have HST := Lib.hid (fun (W : World) (hb : Below wr.heap.size wr W) => sametexts_any xns yns xA yA xc yc W (S0.out.below hb) (S1.out.below hb) z0 z1)
              by_cases hnn : xns = yns
              · rw [decide_eq_true hnn] at HST
                have HNN := Lib.hid hnn
                clear hnn
                go_wp2_with fail
                refine wp_region_held_drew (S := (fun w' => w'.cell? ⟨B, 1, none⟩ = some (.slice (some ⟨g, o, none⟩) L.length c) ∧ w'.cell? ⟨B + 1, 1, none⟩ = some (.slice (some ⟨h, q, none⟩) L.length c2) ∧ w'.cell? ⟨g, o + k * 2, none⟩ = some (.string xg) ∧ w'.cell? ⟨g, o + k * 2 + 1, none⟩ = some (.slice xA xns.length xc) ∧ w'.cell? ⟨h, q + k * 2, none⟩ = some (.string xg) ∧ w'.cell? ⟨h, q + k * 2 + 1, none⟩ = some (.slice yA yns.length yc))) (by kernel_rfl) ⟨c0, c0b, m1, m2, d1, d2⟩ (fun hHeld => ?_)
                refine wpAnyH_take (i := 0) (v := ?vc0) rfl (by kernel_rfl) (by kernel_rfl) (by kernel_rfl) (fun _ _ _ h => h) (Or.inl ⟨by rfl, ?yc0⟩) (by assumption) ?rc0
                case yc0 =>
                  intro w hSw
                  (try dsimp only at hSw)
                  go_simp
                  first | done | with_reducible rfl
                try simp only [Act.put, List.getElem_toArray, List.getElem_cons_zero, List.setIfInBounds_toArray, List.set_cons_zero, List.set_cons_succ]
                refine wpAnyH_take (i := 1) (v := ?vc1) rfl (by kernel_rfl) (by kernel_rfl) (by kernel_rfl) (fun _ _ _ h => h) (Or.inl ⟨by rfl, ?yc1⟩) (by assumption) ?rc1
                case yc1 =>
                  intro w hSw
                  (try dsimp only at hSw)
                  go_simp
                  first | done | with_reducible rfl
                try simp only [Act.put, List.getElem_toArray, List.getElem_cons_zero, List.getElem_cons_succ, List.setIfInBounds_toArray, List.set_cons_zero, List.set_cons_succ]
                refine wpAnyH_take (i := 2) (v := ?vc2) rfl (by kernel_rfl) (by kernel_rfl) (by kernel_rfl) (fun _ _ _ h => h) (Or.inl ⟨by rfl, ?yc2⟩) (by assumption) ?rc2
                case yc2 =>
                  intro w hSw
                  (try dsimp only at hSw)
                  go_simp
                  first | done | with_reducible rfl
                try simp only [Act.put, List.getElem_toArray, List.getElem_cons_zero, List.getElem_cons_succ, List.setIfInBounds_toArray, List.set_cons_zero, List.set_cons_succ]
                refine wpAnyH_take (i := 3) (v := ?vc3) rfl (by kernel_rfl) (by kernel_rfl) (by kernel_rfl) (fun _ _ _ h => h) (Or.inl ⟨by rfl, ?yc3⟩) (by assumption) ?rc3
                case yc3 =>
                  intro w hSw
                  (try dsimp only at hSw)
                  go_simp
                  first | done | with_reducible rfl
                try simp only [Act.put, List.getElem_toArray, List.getElem_cons_zero, List.getElem_cons_succ, List.setIfInBounds_toArray, List.set_cons_zero, List.set_cons_succ]
                refine wpAnyH_take (i := 4) (v := ?vc4) rfl (by kernel_rfl) (by kernel_rfl) (by kernel_rfl) (fun _ _ _ h => h) (Or.inl ⟨by rfl, ?yc4⟩) (by assumption) ?rc4
                case yc4 =>
                  intro w hSw
                  (try dsimp only at hSw)
                  go_simp
                  first | done | with_reducible rfl
                try simp only [Act.put, List.getElem_toArray, List.getElem_cons_zero, List.getElem_cons_succ, List.setIfInBounds_toArray, List.set_cons_zero, List.set_cons_succ]
                refine wpAnyH_take (i := 5) (v := ?vc5) rfl (by kernel_rfl) (by kernel_rfl) (by kernel_rfl) (fun _ _ _ h => h) (Or.inl ⟨by rfl, ?yc5⟩) (by assumption) ?rc5
                case yc5 =>
                  intro w hSw
                  (try dsimp only at hSw)
                  go_simp
                  first | done | with_reducible rfl
                try simp only [Act.put, List.getElem_toArray, List.getElem_cons_zero, List.getElem_cons_succ, List.setIfInBounds_toArray, List.set_cons_zero, List.set_cons_succ]
                refine wpAnyH_take (i := 6) (v := ?vc6) rfl (by kernel_rfl) (by kernel_rfl) (by kernel_rfl) (fun _ _ _ h => h) (Or.inl ⟨by rfl, ?yc6⟩) (by assumption) ?rc6
                case yc6 =>
                  intro w hSw
                  (try dsimp only at hSw)
                  go_simp
                  first | done | with_reducible rfl
                try simp only [Act.put, List.getElem_toArray, List.getElem_cons_zero, List.getElem_cons_succ, List.setIfInBounds_toArray, List.set_cons_zero, List.set_cons_succ]
                refine wpAnyH_take (i := 7) (v := ?vc7) rfl (by kernel_rfl) (by kernel_rfl) (by kernel_rfl) (fun _ _ _ h => h) (Or.inl ⟨by rfl, ?yc7⟩) (by assumption) ?rc7
                case yc7 =>
                  intro w hSw
                  (try dsimp only at hSw)
                  go_simp
                  first | done | with_reducible rfl
                try simp only [Act.put, List.getElem_toArray, List.getElem_cons_zero, List.getElem_cons_succ, List.setIfInBounds_toArray, List.set_cons_zero, List.set_cons_succ]
                refine wpAnyH_take (i := 8) (v := ?vc8) rfl (by kernel_rfl) (by kernel_rfl) (by kernel_rfl) (fun _ _ _ h => h) (Or.inl ⟨by rfl, ?yc8⟩) (by assumption) ?rc8
                case yc8 =>
                  intro w hSw
                  (try dsimp only at hSw)
                  go_simp
                  first | done | with_reducible rfl
                try simp only [Act.put, List.getElem_toArray, List.getElem_cons_zero, List.getElem_cons_succ, List.setIfInBounds_toArray, List.set_cons_zero, List.set_cons_succ]
                refine wpAnyH_take (i := 9) (v := ?vc9) rfl (by kernel_rfl) (by kernel_rfl) (by kernel_rfl) (fun _ _ _ h => h) (Or.inl ⟨by rfl, ?yc9⟩) (by assumption) ?rc9
                case yc9 =>
                  intro w hSw
                  (try dsimp only at hSw)
                  go_simp
                  first | done | with_reducible rfl
                try simp only [Act.put, List.getElem_toArray, List.getElem_cons_zero, List.getElem_cons_succ, List.setIfInBounds_toArray, List.set_cons_zero, List.set_cons_succ]
                refine wpAnyH_take (i := 10) (v := ?vc10) rfl (by kernel_rfl) (by kernel_rfl) (by kernel_rfl) (fun _ _ _ h => h) (Or.inl ⟨by rfl, ?yc10⟩) (by assumption) ?rc10
                case yc10 =>
                  intro w hSw
                  (try dsimp only at hSw)
                  go_simp
                  first | done | with_reducible rfl
                try simp only [Act.put, List.getElem_toArray, List.getElem_cons_zero, List.getElem_cons_succ, List.setIfInBounds_toArray, List.set_cons_zero, List.set_cons_succ]
                refine wpAnyH_take (i := 11) (v := ?vc11) rfl (by kernel_rfl) (by kernel_rfl) (by kernel_rfl) (fun _ _ _ h => h) (Or.inl ⟨by rfl, ?yc11⟩) (by assumption) ?rc11
                case yc11 =>
                  intro w hSw
                  (try dsimp only at hSw)
                  go_simp
                  first | done | with_reducible rfl
                try simp only [Act.put, List.getElem_toArray, List.getElem_cons_zero, List.getElem_cons_succ, List.setIfInBounds_toArray, List.set_cons_zero, List.set_cons_succ]
                refine wpAnyH_take (i := 12) (v := ?vc12) rfl (by kernel_rfl) (by kernel_rfl) (by kernel_rfl) (fun _ _ _ h => h) (Or.inl ⟨by rfl, ?yc12⟩) (by assumption) ?rc12
                case yc12 =>
                  intro w hSw
                  (try dsimp only at hSw)
                  go_simp
                  first | done | with_reducible rfl
                try simp only [Act.put, List.getElem_toArray, List.getElem_cons_zero, List.getElem_cons_succ, List.setIfInBounds_toArray, List.set_cons_zero, List.set_cons_succ]
                refine wpAnyH_take (i := 13) (v := ?vc13) rfl (by kernel_rfl) (by kernel_rfl) (by kernel_rfl) (fun _ _ _ h => h) (Or.inl ⟨by rfl, ?yc13⟩) (by assumption) ?rc13
                case yc13 =>
                  intro w hSw
                  (try dsimp only at hSw)
                  go_simp
                  first | done | with_reducible rfl
                try simp only [Act.put, List.getElem_toArray, List.getElem_cons_zero, List.getElem_cons_succ, List.setIfInBounds_toArray, List.set_cons_zero, List.set_cons_succ]
                refine wpAnyH_take (i := 14) (v := ?vc14) rfl (by kernel_rfl) (by kernel_rfl) (by kernel_rfl) (fun _ _ _ h => h) (Or.inl ⟨by rfl, ?yc14⟩) (by assumption) ?rc14
                case yc14 =>
                  intro w hSw
                  (try dsimp only at hSw)
                  go_simp
                  first | done | with_reducible rfl
                try simp only [Act.put, List.getElem_toArray, List.getElem_cons_zero, List.getElem_cons_succ, List.setIfInBounds_toArray, List.set_cons_zero, List.set_cons_succ]
                refine wpAnyH_take (i := 15) (v := ?vc15) rfl (by kernel_rfl) (by kernel_rfl) (by kernel_rfl) (fun _ _ _ h => h) (Or.inl ⟨by rfl, ?yc15⟩) (by assumption) ?rc15
                case yc15 =>
                  intro w hSw
                  (try dsimp only at hSw)
                  go_simp
                  first | done | with_reducible rfl
                try simp only [Act.put, List.getElem_toArray, List.getElem_cons_zero, List.getElem_cons_succ, List.setIfInBounds_toArray, List.set_cons_zero, List.set_cons_succ]
                refine wpAnyH_take (i := 16) (v := ?vc16) rfl (by kernel_rfl) (by kernel_rfl) (by kernel_rfl) (fun _ _ _ h => h) (Or.inl ⟨by rfl, ?yc16⟩) (by assumption) ?rc16
                case yc16 =>
                  intro w hSw
                  (try dsimp only at hSw)
                  go_simp
                  first | done | with_reducible rfl
                try simp only [Act.put, List.getElem_toArray, List.getElem_cons_zero, List.getElem_cons_succ, List.setIfInBounds_toArray, List.set_cons_zero, List.set_cons_succ]
                refine wpAnyH_take (i := 17) (v := ?vc17) rfl (by kernel_rfl) (by kernel_rfl) (by kernel_rfl) (fun _ _ _ h => h) (Or.inl ⟨by rfl, ?yc17⟩) (by assumption) ?rc17
                case yc17 =>
                  intro w hSw
                  (try dsimp only at hSw)
                  go_simp
                  first | done | with_reducible rfl
                try simp only [Act.put, List.getElem_toArray, List.getElem_cons_zero, List.getElem_cons_succ, List.setIfInBounds_toArray, List.set_cons_zero, List.set_cons_succ]
                refine wpAnyH_take (i := 18) (v := ?vc18) rfl (by kernel_rfl) (by kernel_rfl) (by kernel_rfl) (fun _ _ _ h => h) (Or.inl ⟨by rfl, ?yc18⟩) (by assumption) ?rc18
                case yc18 =>
                  intro w hSw
                  (try dsimp only at hSw)
                  go_simp
                  first | done | with_reducible rfl
                try simp only [Act.put, List.getElem_toArray, List.getElem_cons_zero, List.getElem_cons_succ, List.setIfInBounds_toArray, List.set_cons_zero, List.set_cons_succ]
                refine wpAnyH_take (i := 19) (v := ?vc19) rfl (by kernel_rfl) (by kernel_rfl) (by kernel_rfl) (fun _ _ _ h => h) (Or.inl ⟨by rfl, ?yc19⟩) (by assumption) ?rc19
                case yc19 =>
                  intro w hSw
                  (try dsimp only at hSw)
                  go_simp
                  first | done | with_reducible rfl
                try simp only [Act.put, List.getElem_toArray, List.getElem_cons_zero, List.getElem_cons_succ, List.setIfInBounds_toArray, List.set_cons_zero, List.set_cons_succ]
                refine wpAnyH_take (i := 20) (v := ?vc20) rfl (by kernel_rfl) (by kernel_rfl) (by kernel_rfl) (fun _ _ _ h => h) (Or.inl ⟨by rfl, ?yc20⟩) (by assumption) ?rc20
                case yc20 =>
                  intro w hSw
                  (try dsimp only at hSw)
                  go_simp
                  first | done | with_reducible rfl
                try simp only [Act.put, List.getElem_toArray, List.getElem_cons_zero, List.getElem_cons_succ, List.setIfInBounds_toArray, List.set_cons_zero, List.set_cons_succ]
                refine wpAnyH_take (i := 21) (v := ?vc21) rfl (by kernel_rfl) (by kernel_rfl) (by kernel_rfl) (fun _ _ _ h => h) (Or.inl ⟨by rfl, ?yc21⟩) (by assumption) ?rc21
                case yc21 =>
                  intro w hSw
                  (try dsimp only at hSw)
                  go_simp
                  first | done | with_reducible rfl
                try simp only [Act.put, List.getElem_toArray, List.getElem_cons_zero, List.getElem_cons_succ, List.setIfInBounds_toArray, List.set_cons_zero, List.set_cons_succ]
                refine wpAnyH_take (i := 22) (v := ?vc22) rfl (by kernel_rfl) (by kernel_rfl) (by kernel_rfl) (fun _ _ _ h => h) (Or.inl ⟨by rfl, ?yc22⟩) (by assumption) ?rc22
                case yc22 =>
                  intro w hSw
                  (try dsimp only at hSw)
                  go_simp
                  first | done | with_reducible rfl
                try simp only [Act.put, List.getElem_toArray, List.getElem_cons_zero, List.getElem_cons_succ, List.setIfInBounds_toArray, List.set_cons_zero, List.set_cons_succ]
                refine wpAnyH_take (i := 23) (v := ?vc23) rfl (by kernel_rfl) (by kernel_rfl) (by kernel_rfl) (fun _ _ _ h => h) (Or.inl ⟨by rfl, ?yc23⟩) (by assumption) ?rc23
                case yc23 =>
                  intro w hSw
                  (try dsimp only at hSw)
                  go_simp
                  first | done | with_reducible rfl
                try simp only [Act.put, List.getElem_toArray, List.getElem_cons_zero, List.getElem_cons_succ, List.setIfInBounds_toArray, List.set_cons_zero, List.set_cons_succ]
                refine wpAnyH_take (i := 24) (v := ?vc24) rfl (by kernel_rfl) (by kernel_rfl) (by kernel_rfl) (fun _ _ _ h => h) (Or.inl ⟨by rfl, ?yc24⟩) (by assumption) ?rc24
                case yc24 =>
                  intro w hSw
                  (try dsimp only at hSw)
                  go_simp
                  first | done | with_reducible rfl
                try simp only [Act.put, List.getElem_toArray, List.getElem_cons_zero, List.getElem_cons_succ, List.setIfInBounds_toArray, List.set_cons_zero, List.set_cons_succ]
                refine wpAnyH_take (i := 25) (v := ?vc25) rfl (by kernel_rfl) (by kernel_rfl) (by kernel_rfl) (fun _ _ _ h => h) (Or.inl ⟨by rfl, ?yc25⟩) (by assumption) ?rc25
                case yc25 =>
                  intro w hSw
                  (try dsimp only at hSw)
                  go_simp
                  first | done | with_reducible rfl
                try simp only [Act.put, List.getElem_toArray, List.getElem_cons_zero, List.getElem_cons_succ, List.setIfInBounds_toArray, List.set_cons_zero, List.set_cons_succ]
                refine wpAnyH_ready (rs := [26]) (by kernel_rfl) (by simp) ?_
                refine AllReadyH.cons rfl (fun K hK => ?_) AllReadyH.nil
                go_simp
                refine (HST.out _ ((Below.refl _ wr).drew)).mono ?_
                rintro e w2 ⟨rfl, hq2⟩
                have hb2 : Below wr.heap.size wr w2 := ((Below.refl _ wr).drew).trans hq2
                have hbw2 := hbr.trans (hb2.mono hsz)
                go_wp2_with fail
                refine hK.out _ _ ⟨(hbw2.cell (p := ⟨B, 1, none⟩) (World.block_lt_of_cell? W2 (a := ⟨B, 1, none⟩) C0.out)).trans C0.out, (hbw2.cell (p := ⟨B + 1, 1, none⟩) (World.block_lt_of_cell? W2 (a := ⟨B + 1, 1, none⟩) C1.out)).trans C1.out, (hb2.cell (p := ⟨g, o + k * 2, none⟩) gl1).trans m1, (hb2.cell (p := ⟨g, o + k * 2 + 1, none⟩) gl1).trans m2, (hb2.cell (p := ⟨h, q + k * 2, none⟩) gl2).trans d1, (hb2.cell (p := ⟨h, q + k * 2 + 1, none⟩) gl2).trans d2⟩ (fun hHeld => ?_)
                clear hK K
                try simp only [Act.put, List.getElem_toArray, List.getElem_cons_zero, List.getElem_cons_succ, List.setIfInBounds_toArray, List.set_cons_zero, List.set_cons_succ]
                refine wpAnyH_take (i := 27) (v := ?vc27) rfl (by kernel_rfl) (by kernel_rfl) (by kernel_rfl) (fun _ _ _ h => h) (Or.inl ⟨by rfl, ?yc27⟩) (by assumption) ?rc27
                case yc27 =>
                  intro w hSw
                  (try dsimp only at hSw)
                  go_simp
                  first | done | with_reducible rfl
                try simp only [Act.put, List.getElem_toArray, List.getElem_cons_zero, List.getElem_cons_succ, List.setIfInBounds_toArray, List.set_cons_zero, List.set_cons_succ]
                refine wpAnyH_take (i := 28) (v := ?vc28) rfl (by kernel_rfl) (by kernel_rfl) (by kernel_rfl) (fun _ _ _ h => h) (Or.inl ⟨by rfl, ?yc28⟩) (by assumption) ?rc28
                case yc28 =>
                  intro w hSw
                  (try dsimp only at hSw)
                  go_simp
                  first | done | with_reducible rfl
                try simp only [Act.put, List.getElem_toArray, List.getElem_cons_zero, List.getElem_cons_succ, List.setIfInBounds_toArray, List.set_cons_zero, List.set_cons_succ]
                refine wpAnyH_done (by kernel_rfl) ?_ _
                go_wp2_with fail
                go_roundw
                case rel =>
                  refine ⟨k + 1, by omega, by go_num, fun j hj => ?_, hbw2⟩
                  by_cases e : j = k
                  · subst e; rw [Q1.out, Q2.out]; show some (xg.data.toList, xns) = some (xg.data.toList, yns); rw [HNN.out]
                  · exact HALL.out j (by omega)
                case measure => simp [intOf]; omega
              · rw [decide_eq_false hnn] at HST
                have hd : ∀ b : Bool, decide ((b, lnsX L) = (b, lnsX M)) = false := fun b => decide_eq_false (fun e => hnn (by
                  have := congrArg (fun x : Ow => x.2[k]?) e
                  simp only [Q1.out, Q2.out, Option.some.injEq] at this
                  exact congrArg Prod.snd this))
                have HD : Hid (Rz = false) := HRZ.out.symm.trans (hd _)
                clear hnn hd HRZ
                go_wp2_with fail
                refine wp_region_held_drew (S := (fun w' => w'.cell? ⟨B, 1, none⟩ = some (.slice (some ⟨g, o, none⟩) L.length c) ∧ w'.cell? ⟨B + 1, 1, none⟩ = some (.slice (some ⟨h, q, none⟩) L.length c2) ∧ w'.cell? ⟨g, o + k * 2, none⟩ = some (.string xg) ∧ w'.cell? ⟨g, o + k * 2 + 1, none⟩ = some (.slice xA xns.length xc) ∧ w'.cell? ⟨h, q + k * 2, none⟩ = some (.string xg) ∧ w'.cell? ⟨h, q + k * 2 + 1, none⟩ = some (.slice yA yns.length yc))) (by kernel_rfl) ⟨c0, c0b, m1, m2, d1, d2⟩ (fun hHeld => ?_)
                refine wpAnyH_take (i := 0) (v := ?vd0) rfl (by kernel_rfl) (by kernel_rfl) (by kernel_rfl) (fun _ _ _ h => h) (Or.inl ⟨by rfl, ?yd0⟩) (by assumption) ?rd0
                case yd0 =>
                  intro w hSw
                  (try dsimp only at hSw)
                  go_simp
                  first | done | with_reducible rfl
                try simp only [Act.put, List.getElem_toArray, List.getElem_cons_zero, List.setIfInBounds_toArray, List.set_cons_zero, List.set_cons_succ]
                refine wpAnyH_take (i := 1) (v := ?vd1) rfl (by kernel_rfl) (by kernel_rfl) (by kernel_rfl) (fun _ _ _ h => h) (Or.inl ⟨by rfl, ?yd1⟩) (by assumption) ?rd1
                case yd1 =>
                  intro w hSw
                  (try dsimp only at hSw)
                  go_simp
                  first | done | with_reducible rfl
                try simp only [Act.put, List.getElem_toArray, List.getElem_cons_zero, List.getElem_cons_succ, List.setIfInBounds_toArray, List.set_cons_zero, List.set_cons_succ]
                refine wpAnyH_take (i := 2) (v := ?vd2) rfl (by kernel_rfl) (by kernel_rfl) (by kernel_rfl) (fun _ _ _ h => h) (Or.inl ⟨by rfl, ?yd2⟩) (by assumption) ?rd2
                case yd2 =>
                  intro w hSw
                  (try dsimp only at hSw)
                  go_simp
                  first | done | with_reducible rfl
                try simp only [Act.put, List.getElem_toArray, List.getElem_cons_zero, List.getElem_cons_succ, List.setIfInBounds_toArray, List.set_cons_zero, List.set_cons_succ]
                refine wpAnyH_take (i := 3) (v := ?vd3) rfl (by kernel_rfl) (by kernel_rfl) (by kernel_rfl) (fun _ _ _ h => h) (Or.inl ⟨by rfl, ?yd3⟩) (by assumption) ?rd3
                case yd3 =>
                  intro w hSw
                  (try dsimp only at hSw)
                  go_simp
                  first | done | with_reducible rfl
                try simp only [Act.put, List.getElem_toArray, List.getElem_cons_zero, List.getElem_cons_succ, List.setIfInBounds_toArray, List.set_cons_zero, List.set_cons_succ]
                refine wpAnyH_take (i := 4) (v := ?vd4) rfl (by kernel_rfl) (by kernel_rfl) (by kernel_rfl) (fun _ _ _ h => h) (Or.inl ⟨by rfl, ?yd4⟩) (by assumption) ?rd4
                case yd4 =>
                  intro w hSw
                  (try dsimp only at hSw)
                  go_simp
                  first | done | with_reducible rfl
                try simp only [Act.put, List.getElem_toArray, List.getElem_cons_zero, List.getElem_cons_succ, List.setIfInBounds_toArray, List.set_cons_zero, List.set_cons_succ]
                refine wpAnyH_take (i := 5) (v := ?vd5) rfl (by kernel_rfl) (by kernel_rfl) (by kernel_rfl) (fun _ _ _ h => h) (Or.inl ⟨by rfl, ?yd5⟩) (by assumption) ?rd5
                case yd5 =>
                  intro w hSw
                  (try dsimp only at hSw)
                  go_simp
                  first | done | with_reducible rfl
                try simp only [Act.put, List.getElem_toArray, List.getElem_cons_zero, List.getElem_cons_succ, List.setIfInBounds_toArray, List.set_cons_zero, List.set_cons_succ]
                refine wpAnyH_take (i := 6) (v := ?vd6) rfl (by kernel_rfl) (by kernel_rfl) (by kernel_rfl) (fun _ _ _ h => h) (Or.inl ⟨by rfl, ?yd6⟩) (by assumption) ?rd6
                case yd6 =>
                  intro w hSw
                  (try dsimp only at hSw)
                  go_simp
                  first | done | with_reducible rfl
                try simp only [Act.put, List.getElem_toArray, List.getElem_cons_zero, List.getElem_cons_succ, List.setIfInBounds_toArray, List.set_cons_zero, List.set_cons_succ]
                refine wpAnyH_take (i := 7) (v := ?vd7) rfl (by kernel_rfl) (by kernel_rfl) (by kernel_rfl) (fun _ _ _ h => h) (Or.inl ⟨by rfl, ?yd7⟩) (by assumption) ?rd7
                case yd7 =>
                  intro w hSw
                  (try dsimp only at hSw)
                  go_simp
                  first | done | with_reducible rfl
                try simp only [Act.put, List.getElem_toArray, List.getElem_cons_zero, List.getElem_cons_succ, List.setIfInBounds_toArray, List.set_cons_zero, List.set_cons_succ]
                refine wpAnyH_take (i := 8) (v := ?vd8) rfl (by kernel_rfl) (by kernel_rfl) (by kernel_rfl) (fun _ _ _ h => h) (Or.inl ⟨by rfl, ?yd8⟩) (by assumption) ?rd8
                case yd8 =>
                  intro w hSw
                  (try dsimp only at hSw)
                  go_simp
                  first | done | with_reducible rfl
                try simp only [Act.put, List.getElem_toArray, List.getElem_cons_zero, List.getElem_cons_succ, List.setIfInBounds_toArray, List.set_cons_zero, List.set_cons_succ]
                refine wpAnyH_take (i := 9) (v := ?vd9) rfl (by kernel_rfl) (by kernel_rfl) (by kernel_rfl) (fun _ _ _ h => h) (Or.inl ⟨by rfl, ?yd9⟩) (by assumption) ?rd9
                case yd9 =>
                  intro w hSw
                  (try dsimp only at hSw)
                  go_simp
                  first | done | with_reducible rfl
                try simp only [Act.put, List.getElem_toArray, List.getElem_cons_zero, List.getElem_cons_succ, List.setIfInBounds_toArray, List.set_cons_zero, List.set_cons_succ]
                refine wpAnyH_take (i := 10) (v := ?vd10) rfl (by kernel_rfl) (by kernel_rfl) (by kernel_rfl) (fun _ _ _ h => h) (Or.inl ⟨by rfl, ?yd10⟩) (by assumption) ?rd10
                case yd10 =>
                  intro w hSw
                  (try dsimp only at hSw)
                  go_simp
                  first | done | with_reducible rfl
                try simp only [Act.put, List.getElem_toArray, List.getElem_cons_zero, List.getElem_cons_succ, List.setIfInBounds_toArray, List.set_cons_zero, List.set_cons_succ]
                refine wpAnyH_take (i := 11) (v := ?vd11) rfl (by kernel_rfl) (by kernel_rfl) (by kernel_rfl) (fun _ _ _ h => h) (Or.inl ⟨by rfl, ?yd11⟩) (by assumption) ?rd11
                case yd11 =>
                  intro w hSw
                  (try dsimp only at hSw)
                  go_simp
                  first | done | with_reducible rfl
                try simp only [Act.put, List.getElem_toArray, List.getElem_cons_zero, List.getElem_cons_succ, List.setIfInBounds_toArray, List.set_cons_zero, List.set_cons_succ]
                refine wpAnyH_take (i := 12) (v := ?vd12) rfl (by kernel_rfl) (by kernel_rfl) (by kernel_rfl) (fun _ _ _ h => h) (Or.inl ⟨by rfl, ?yd12⟩) (by assumption) ?rd12
                case yd12 =>
                  intro w hSw
                  (try dsimp only at hSw)
                  go_simp
                  first | done | with_reducible rfl
                try simp only [Act.put, List.getElem_toArray, List.getElem_cons_zero, List.getElem_cons_succ, List.setIfInBounds_toArray, List.set_cons_zero, List.set_cons_succ]
                refine wpAnyH_take (i := 13) (v := ?vd13) rfl (by kernel_rfl) (by kernel_rfl) (by kernel_rfl) (fun _ _ _ h => h) (Or.inl ⟨by rfl, ?yd13⟩) (by assumption) ?rd13
                case yd13 =>
                  intro w hSw
                  (try dsimp only at hSw)
                  go_simp
                  first | done | with_reducible rfl
                try simp only [Act.put, List.getElem_toArray, List.getElem_cons_zero, List.getElem_cons_succ, List.setIfInBounds_toArray, List.set_cons_zero, List.set_cons_succ]
                refine wpAnyH_take (i := 14) (v := ?vd14) rfl (by kernel_rfl) (by kernel_rfl) (by kernel_rfl) (fun _ _ _ h => h) (Or.inl ⟨by rfl, ?yd14⟩) (by assumption) ?rd14
                case yd14 =>
                  intro w hSw
                  (try dsimp only at hSw)
                  go_simp
                  first | done | with_reducible rfl
                try simp only [Act.put, List.getElem_toArray, List.getElem_cons_zero, List.getElem_cons_succ, List.setIfInBounds_toArray, List.set_cons_zero, List.set_cons_succ]
                refine wpAnyH_take (i := 15) (v := ?vd15) rfl (by kernel_rfl) (by kernel_rfl) (by kernel_rfl) (fun _ _ _ h => h) (Or.inl ⟨by rfl, ?yd15⟩) (by assumption) ?rd15
                case yd15 =>
                  intro w hSw
                  (try dsimp only at hSw)
                  go_simp
                  first | done | with_reducible rfl
                try simp only [Act.put, List.getElem_toArray, List.getElem_cons_zero, List.getElem_cons_succ, List.setIfInBounds_toArray, List.set_cons_zero, List.set_cons_succ]
                refine wpAnyH_take (i := 16) (v := ?vd16) rfl (by kernel_rfl) (by kernel_rfl) (by kernel_rfl) (fun _ _ _ h => h) (Or.inl ⟨by rfl, ?yd16⟩) (by assumption) ?rd16
                case yd16 =>
                  intro w hSw
                  (try dsimp only at hSw)
                  go_simp
                  first | done | with_reducible rfl
                try simp only [Act.put, List.getElem_toArray, List.getElem_cons_zero, List.getElem_cons_succ, List.setIfInBounds_toArray, List.set_cons_zero, List.set_cons_succ]
                refine wpAnyH_take (i := 17) (v := ?vd17) rfl (by kernel_rfl) (by kernel_rfl) (by kernel_rfl) (fun _ _ _ h => h) (Or.inl ⟨by rfl, ?yd17⟩) (by assumption) ?rd17
                case yd17 =>
                  intro w hSw
                  (try dsimp only at hSw)
                  go_simp
                  first | done | with_reducible rfl
                try simp only [Act.put, List.getElem_toArray, List.getElem_cons_zero, List.getElem_cons_succ, List.setIfInBounds_toArray, List.set_cons_zero, List.set_cons_succ]
                refine wpAnyH_take (i := 18) (v := ?vd18) rfl (by kernel_rfl) (by kernel_rfl) (by kernel_rfl) (fun _ _ _ h => h) (Or.inl ⟨by rfl, ?yd18⟩) (by assumption) ?rd18
                case yd18 =>
                  intro w hSw
                  (try dsimp only at hSw)
                  go_simp
                  first | done | with_reducible rfl
                try simp only [Act.put, List.getElem_toArray, List.getElem_cons_zero, List.getElem_cons_succ, List.setIfInBounds_toArray, List.set_cons_zero, List.set_cons_succ]
                refine wpAnyH_take (i := 19) (v := ?vd19) rfl (by kernel_rfl) (by kernel_rfl) (by kernel_rfl) (fun _ _ _ h => h) (Or.inl ⟨by rfl, ?yd19⟩) (by assumption) ?rd19
                case yd19 =>
                  intro w hSw
                  (try dsimp only at hSw)
                  go_simp
                  first | done | with_reducible rfl
                try simp only [Act.put, List.getElem_toArray, List.getElem_cons_zero, List.getElem_cons_succ, List.setIfInBounds_toArray, List.set_cons_zero, List.set_cons_succ]
                refine wpAnyH_take (i := 20) (v := ?vd20) rfl (by kernel_rfl) (by kernel_rfl) (by kernel_rfl) (fun _ _ _ h => h) (Or.inl ⟨by rfl, ?yd20⟩) (by assumption) ?rd20
                case yd20 =>
                  intro w hSw
                  (try dsimp only at hSw)
                  go_simp
                  first | done | with_reducible rfl
                try simp only [Act.put, List.getElem_toArray, List.getElem_cons_zero, List.getElem_cons_succ, List.setIfInBounds_toArray, List.set_cons_zero, List.set_cons_succ]
                refine wpAnyH_take (i := 21) (v := ?vd21) rfl (by kernel_rfl) (by kernel_rfl) (by kernel_rfl) (fun _ _ _ h => h) (Or.inl ⟨by rfl, ?yd21⟩) (by assumption) ?rd21
                case yd21 =>
                  intro w hSw
                  (try dsimp only at hSw)
                  go_simp
                  first | done | with_reducible rfl
                try simp only [Act.put, List.getElem_toArray, List.getElem_cons_zero, List.getElem_cons_succ, List.setIfInBounds_toArray, List.set_cons_zero, List.set_cons_succ]
                refine wpAnyH_take (i := 22) (v := ?vd22) rfl (by kernel_rfl) (by kernel_rfl) (by kernel_rfl) (fun _ _ _ h => h) (Or.inl ⟨by rfl, ?yd22⟩) (by assumption) ?rd22
                case yd22 =>
                  intro w hSw
                  (try dsimp only at hSw)
                  go_simp
                  first | done | with_reducible rfl
                try simp only [Act.put, List.getElem_toArray, List.getElem_cons_zero, List.getElem_cons_succ, List.setIfInBounds_toArray, List.set_cons_zero, List.set_cons_succ]
                refine wpAnyH_take (i := 23) (v := ?vd23) rfl (by kernel_rfl) (by kernel_rfl) (by kernel_rfl) (fun _ _ _ h => h) (Or.inl ⟨by rfl, ?yd23⟩) (by assumption) ?rd23
                case yd23 =>
                  intro w hSw
                  (try dsimp only at hSw)
                  go_simp
                  first | done | with_reducible rfl
                try simp only [Act.put, List.getElem_toArray, List.getElem_cons_zero, List.getElem_cons_succ, List.setIfInBounds_toArray, List.set_cons_zero, List.set_cons_succ]
                refine wpAnyH_take (i := 24) (v := ?vd24) rfl (by kernel_rfl) (by kernel_rfl) (by kernel_rfl) (fun _ _ _ h => h) (Or.inl ⟨by rfl, ?yd24⟩) (by assumption) ?rd24
                case yd24 =>
                  intro w hSw
                  (try dsimp only at hSw)
                  go_simp
                  first | done | with_reducible rfl
                try simp only [Act.put, List.getElem_toArray, List.getElem_cons_zero, List.getElem_cons_succ, List.setIfInBounds_toArray, List.set_cons_zero, List.set_cons_succ]
                refine wpAnyH_take (i := 25) (v := ?vd25) rfl (by kernel_rfl) (by kernel_rfl) (by kernel_rfl) (fun _ _ _ h => h) (Or.inl ⟨by rfl, ?yd25⟩) (by assumption) ?rd25
                case yd25 =>
                  intro w hSw
                  (try dsimp only at hSw)
                  go_simp
                  first | done | with_reducible rfl
                try simp only [Act.put, List.getElem_toArray, List.getElem_cons_zero, List.getElem_cons_succ, List.setIfInBounds_toArray, List.set_cons_zero, List.set_cons_succ]
                refine wpAnyH_ready (rs := [26]) (by kernel_rfl) (by simp) ?_
                refine AllReadyH.cons rfl (fun K hK => ?_) AllReadyH.nil
                go_simp
                refine (HST.out _ ((Below.refl _ wr).drew)).mono ?_
                rintro e w2 ⟨rfl, hq2⟩
                have hb2 : Below wr.heap.size wr w2 := ((Below.refl _ wr).drew).trans hq2
                have hbw2 := hbr.trans (hb2.mono hsz)
                go_wp2_with fail
                refine hK.out _ _ ⟨(hbw2.cell (p := ⟨B, 1, none⟩) (World.block_lt_of_cell? W2 (a := ⟨B, 1, none⟩) C0.out)).trans C0.out, (hbw2.cell (p := ⟨B + 1, 1, none⟩) (World.block_lt_of_cell? W2 (a := ⟨B + 1, 1, none⟩) C1.out)).trans C1.out, (hb2.cell (p := ⟨g, o + k * 2, none⟩) gl1).trans m1, (hb2.cell (p := ⟨g, o + k * 2 + 1, none⟩) gl1).trans m2, (hb2.cell (p := ⟨h, q + k * 2, none⟩) gl2).trans d1, (hb2.cell (p := ⟨h, q + k * 2 + 1, none⟩) gl2).trans d2⟩ (fun hHeld => ?_)
                clear hK K
                try simp only [Act.put, List.getElem_toArray, List.getElem_cons_zero, List.getElem_cons_succ, List.setIfInBounds_toArray, List.set_cons_zero, List.set_cons_succ]
                refine wpAnyH_take (i := 27) (v := ?vd27) rfl (by kernel_rfl) (by kernel_rfl) (by kernel_rfl) (fun _ _ _ h => h) (Or.inl ⟨by rfl, ?yd27⟩) (by assumption) ?rd27
                case yd27 =>
                  intro w hSw
                  (try dsimp only at hSw)
                  go_simp
                  first | done | with_reducible rfl
                try simp only [Act.put, List.getElem_toArray, List.getElem_cons_zero, List.getElem_cons_succ, List.setIfInBounds_toArray, List.set_cons_zero, List.set_cons_succ]
                refine wpAnyH_take (i := 28) (v := ?vd28) rfl (by kernel_rfl) (by kernel_rfl) (by kernel_rfl) (fun _ _ _ h => h) (Or.inl ⟨by rfl, ?yd28⟩) (by assumption) ?rd28
                case yd28 =>
                  intro w hSw
                  (try dsimp only at hSw)
                  go_simp
                  first | done | with_reducible rfl
                try simp only [Act.put, List.getElem_toArray, List.getElem_cons_zero, List.getElem_cons_succ, List.setIfInBounds_toArray, List.set_cons_zero, List.set_cons_succ]
                refine wpAnyH_done (by kernel_rfl) ?_ _
                go_wp2_with fail
                go_ret
                exact ⟨by rw [HD.out]; rfl, HBW.out.trans (hbw2.mono HBW.out.size)⟩
            · have hd : ∀ b : Bool, decide ((b, lnsX L) = (b, lnsX M)) = false := fun b => decide_eq_false (fun e => hgg (by
                have := congrArg (fun x : Ow => x.2[k]?) e
                simp only [Q1.out, Q2.out, Option.some.injEq] at this
                have := congrArg Prod.fst this
                have h2 : mkB xg.data.toList = mkB yg.data.toList := congrArg mkB this
                rwa [data_mkB, data_mkB] at h2))
              have HD : Hid (Rz = false) := HRZ.out.symm.trans (hd _)
              have q1 : (xg.toList == yg.toList) = false := by
                rw [beq_eq_false_iff_ne]; intro e
                apply hgg
                rw [ByteArray.toList_eq, ByteArray.toList_eq] at e
                have h2 : mkB xg.data.toList = mkB yg.data.toList := congrArg mkB e
                rwa [data_mkB, data_mkB] at h2
              have q2 : (xg.toList != yg.toList) = true := by unfold bne; rw [q1]; rfl
              clear hgg hd HRZ
              go_wp2_with fail
              go_quiet (fail)
              go_wp2_with fail
              go_ret
              exact ⟨by rw [HD.out]; rfl, HBW.out.trans ((belowQ hbr _).mono HBW.out.size)⟩
          · obtain rfl : k = L.length := by omega
            have hd : ∀ b : Bool, decide ((b, lnsX L) = (b, lnsX M)) = true := fun b => decide_eq_true (by
              have : lnsX L = lnsX M := List.ext_getElem? fun j => by
                by_cases e : j < L.length
                · exact HALL.out j e
                · rw [List.getElem?_eq_none (by rw [lnsX_length]; omega), List.getElem?_eq_none (by rw [lnsX_length, ← HLM.out]; omega)]
              rw [this])
            have HD : Hid (Rz = true) := HRZ.out.symm.trans (hd _)
            clear hd HRZ
            go_wp2_with fail
            go_ret
            exact ⟨by rw [HD.out]; rfl, HBW.out.trans (hbr.mono HBW.out.size)⟩
    · have g1 : ((L.length : Int) = (M.length : Int)) = False := eq_false (by omega)
      have g2 : ((L.length : Int) != (M.length : Int)) = true := by rw [bne_iff_ne]; omega
      have hd : decide ((np, lnsX L) = (np, lnsX M)) = false := decide_eq_false (fun e => hlm (by
        have := congrArg (fun x : Ow => x.2.length) e
        simpa [lnsX_length] using this))
      have HD : Hid (Rz = false) := HRZ.out.symm.trans hd
      clear hd hlm HRZ
      cases np <;>
      · go_wp2_with fail
        go_ret
        exact ⟨by rw [HD.out]; rfl, HBW.out⟩
  · have hd : decide ((np, lnsX L) = (mp, lnsX M)) = false := decide_eq_false (fun e => hnp (congrArg Prod.fst e))
    have HD : Hid (Rz = false) := HRZ.out.symm.trans hd
    clear hd HRZ
    cases np <;> cases mp <;> first | exact absurd rfl hnp | skip
    all_goals
      clear hnp
      go_wp2_with fail
      go_ret
      exact ⟨by rw [HD.out]; rfl, HBW.out⟩
end Go.Proofs.YtkihgbggndikpaaGreatDoor
namespace Go.Proofs.YtkihgbggndikpaaGreatDoor
open Go Go.RowKit Go.Shelf Go.Proofs Go.ChangeShapes Go.WideShapes Go.Deep

theorem bulkO_all {H : Type} (L : List (DataW H)) : Rows.uptoBulkAll L = (L.map Rows.uptoBulk).sum := by
  induction L with
  | nil => simp [Rows.uptoBulkAll]
  | cons d r ih => simp [Rows.uptoBulkAll, ih]
theorem sumO_at {α : Type} (f : α → Nat) (g : Nat → Nat) (l : List α) (h : ∀ i x, l[i]? = some x → f x ≤ g i) : (l.map f).sum ≤ ((List.range l.length).map g).sum := by
  have key : ∀ k, k ≤ l.length → ((l.take k).map f).sum ≤ ((List.range k).map g).sum := by
    intro k
    induction k with
    | zero => intro _; simp
    | succ k ih =>
      intro hk
      obtain ⟨x, hx⟩ : ∃ x, l[k]? = some x := ⟨_, List.getElem?_eq_getElem (by omega)⟩
      have h1 := ih (by omega)
      have h2 := h k x hx
      rw [List.take_add_one, hx, List.map_append, List.sum_append, List.range_succ, List.map_append, List.sum_append]
      simp only [Option.toList, List.map_cons, List.map_nil, List.sum_cons, List.sum_nil]
      omega
  have := key l.length (Nat.le_refl _)
  rwa [List.take_length] at this
theorem strsO_bulk {H : Type} : ∀ l : List ByteArray, Rows.uptoBulkAll (H := H) (strs l) = ((l.map (·.data.toList)).map (fun n => 1 + n.length)).sum
  | [] => rfl
  | x :: r => by
    have e : Rows.uptoBulkAll (H := H) (strs (x :: r)) = (x.data.toList.length + 1) + Rows.uptoBulkAll (H := H) (strs r) := rfl
    rw [e, strsO_bulk r, List.map_cons, List.map_cons, List.sum_cons]
    omega

section
variable {H : Type} {enc : TypeId × Value → H} {P : Program} {w : World} {base : Nat} {spare : Nat → Bool} {held : Bool}
theorem open_textsB {t e : TypeId} (ht : P.underlying t = some (.slice e)) (he : P.underlying e = some .string) (hc : P.cellsOf e = 1) {fuel : Nat} {cs : List Value} {x : DataW H × List MemPlace}
    (h : DataW.trod enc P w base spare held fuel t cs = some x) :
    ∃ A c l, cs = [.slice A (List.length l) c] ∧ StrsAt w A l ∧ l.length ≤ c ∧ c ≤ maxLen ∧ 1 + (l.map (fun n => 1 + n.length)).sum ≤ Rows.uptoBulk x.1 := by
  rcases open_strings ht he hc h with ⟨rfl, rfl⟩ | ⟨a, len, cap, ss, rfl, _, hl, hm, hss, rfl, hi, _⟩
  · exact ⟨none, 0, [], rfl, StrsAt.nil _ _, Nat.le_refl _, Nat.zero_le _, by simp [Rows.uptoBulk]⟩
  · have hle : len ≤ ss.length := by rw [hss]; split <;> omega
    have hlen : ((ss.take len).map (·.data.toList)).length = len := by rw [List.length_map, List.length_take]; omega
    have hb : Rows.uptoBulk (H := H) (.slice (strs (ss.take len)) (strs (ss.drop len))) = Rows.uptoBulkAll (H := H) (strs (ss.take len)) + Rows.uptoBulkAll (H := H) (strs (ss.drop len)) + 1 := rfl
    refine ⟨some a, cap, (ss.take len).map (·.data.toList), by rw [hlen], fun hn => ?_, by rw [hlen]; exact hl, hm, by
      have h9 := strsO_bulk (H := H) (ss.take len)
      rw [hb, h9]
      generalize (((ss.take len).map (·.data.toList)).map (fun n => 1 + n.length)).sum = z
      omega⟩
    rw [hlen] at hn
    obtain ⟨g, o, s⟩ := a
    have h00 := hi 0 (by omega)
    obtain rfl : s = none := by simpa [Addr.add] using World.cell?_spot h00
    refine ⟨g, o, rfl, fun i x hx => ?_⟩
    have hil : i < len := by
      have := (List.getElem?_eq_some_iff.1 hx).1
      rwa [hlen] at this
    have hix : i < ss.length := by omega
    rw [List.getElem?_map, List.getElem?_take, if_pos hil, List.getElem?_eq_getElem hix] at hx
    simp only [Option.map_some, Option.some.injEq] at hx
    have := hi i hix
    rw [Go.WideShapes.add_plain, List.getD_eq_getElem?_getD, List.getElem?_eq_getElem hix] at this
    rw [← hx, data_mkB]; exact this

/-- The closed facts of a type of lines: a glob, owners. -/
structure LineTy (P : Program) (t r e : TypeId) (f0 f1 : Field) : Prop where
  st : P.underlying t = some (.struct #[f0, f1])
  cells : P.cellsOf t = 2
  one : oneCellFields P #[f0, f1] = true
  str : P.underlying f0.type = some .string
  txt : P.underlying f1.type = some (.slice e)
  es : P.underlying e = some .string
  ec : P.cellsOf e = 1
structure LineOk (w : World) (x : LX) : Prop where
  strs : StrsAt w x.A x.ns
  cap : x.ns.length ≤ x.c
  capm : x.c ≤ maxLen
theorem open_lineB {t r e : TypeId} {f0 f1 : Field} (T : LineTy P t r e f0 f1) {fuel : Nat} {cs : List Value} {x : DataW H × List MemPlace}
    (h : DataW.trod enc P w base spare held fuel t cs = some x) : ∃ f : LX, cs = f.cs ∧ LineOk w f ∧ longLn f.ln ≤ Rows.uptoBulk x.1 := by
  obtain ⟨y0, y1, n, rfl, hlen, h0, h1⟩ := trod_struct2 T.st h
  obtain ⟨o0, k0⟩ := hone_of T.one 0 f0 rfl
  obtain ⟨o1, k1⟩ := hone_of T.one 1 f1 rfl
  rw [T.cells] at hlen
  match cs, hlen with
  | [c0, c1], _ =>
    have h0 : DataW.trod enc P w base spare held n f0.type [c0] = some y0 := by simpa [o0, k0] using h0
    have h1 : DataW.trod enc P w base spare held n f1.type [c1] = some y1 := by simpa [o1, k1] using h1
    obtain ⟨s, hs, rfl, _⟩ := DataW.trod_string T.str h0
    obtain ⟨A, c, l, hb, h2, h3, h4, h5⟩ := open_textsB T.txt T.es T.ec h1
    simp only [List.cons.injEq, and_true] at hs hb
    subst hs; subst hb
    refine ⟨⟨s, A, c, l⟩, rfl, ⟨h2, h3, h4⟩, ?_⟩
    have e : s.data.toList.length = s.size := Array.length_toList
    simp only [Rows.uptoBulk, bulkO_all, List.map_cons, List.map_nil, List.sum_cons, List.sum_nil]
    unfold longLn LX.ln
    simp only
    omega
theorem open_linesB {t e r u : TypeId} {f0 f1 : Field} (ht : P.underlying t = some (.slice e)) (T : LineTy P e r u f0 f1) {fuel : Nat} {cs : List Value} {x : DataW H × List MemPlace}
    (h : DataW.trod enc P w base spare held fuel t cs = some x) : ∃ A c l, cs = [.slice A l.length c] ∧ LinesAt w A c l ∧ ((lnsX l).map longLn).sum ≤ Rows.uptoBulk x.1 := by
  rcases open_slice ht h with ⟨rfl, rfl⟩ | ⟨a, len, cap, m, n, D, Pl, rfl, _, hl, hm, hmm, rfl, hi⟩
  · exact ⟨none, 0, [], rfl, LinesAt.nil _ _ _ (Nat.zero_le _), by simp [lnsX]⟩
  · have hle : len ≤ m := by rw [hmm]; split <;> omega
    rw [T.cells] at hi
    have each : ∀ i, i < len → ∃ f : LX, LineOk w f ∧ longLn f.ln ≤ Rows.uptoBulk (D i) ∧ w.cell? ((a.add (i * 2)).add 0) = some (.string f.g) ∧ w.cell? ((a.add (i * 2)).add 1) = some (.slice f.A f.ns.length f.c) := fun i hil => by
      obtain ⟨cs', hc, ht'⟩ := hi i (by omega)
      obtain ⟨f, rfl, hf, hb⟩ := open_lineB T ht'
      obtain ⟨_, _, hat⟩ := World.cells?_some hc
      exact ⟨f, hf, hb, hat 0 (by omega), hat 1 (by omega)⟩
    obtain ⟨F, hF⟩ := choose_lt each
    have hll : ((List.range len).map F).length = len := by simp
    have hmem : ∀ f ∈ (List.range len).map F, LineOk w f := fun f hf => by
      obtain ⟨i, hi', rfl⟩ := List.mem_map.1 hf
      exact (hF i (List.mem_range.1 hi')).1
    refine ⟨some a, cap, (List.range len).map F, by rw [hll], ⟨by rw [hll]; exact hl, hm, fun hn => ?_, fun f hf => ⟨(hmem f hf).strs, (hmem f hf).cap, (hmem f hf).capm⟩⟩, ?_⟩
    · rw [hll] at hn
      obtain ⟨g, o, s⟩ := a
      have h00 := (hF 0 hn).2.2.1
      obtain rfl : s = none := by simpa [Addr.add] using World.cell?_spot h00
      refine ⟨g, o, rfl, fun i x hx => ?_⟩
      have hil : i < len := by
        have := (List.getElem?_eq_some_iff.1 hx).1
        rwa [hll] at this
      rw [List.getElem?_map, List.getElem?_range hil] at hx
      obtain rfl : F i = x := by simpa using hx
      obtain ⟨_, _, h1, h2⟩ := hF i hil
      rw [Go.WideShapes.add_plain, Go.WideShapes.add_plain] at h1 h2
      exact ⟨h1, h2⟩
    · simp only [Rows.uptoBulk, bulkO_all, List.map_map]
      have := sumO_at longLn (Rows.uptoBulk ∘ D) (lnsX ((List.range len).map F)) (fun i y hy => by
        have hil : i < len := by
          have := (List.getElem?_eq_some_iff.1 hy).1
          rwa [lnsX_length, hll] at this
        rw [lnsX_getElem?, List.getElem?_map, List.getElem?_range hil] at hy
        simp only [Option.map_some, Option.some.injEq] at hy
        subst hy
        exact (hF i hil).2.1)
      rw [lnsX_length, hll] at this
      omega

/-- The closed facts of the type Owners: a bool, lines. -/
structure OwTy (P : Program) (t r e s u : TypeId) (b0 b1 f0 f1 : Field) : Prop where
  st : P.underlying t = some (.struct #[b0, b1])
  cells : P.cellsOf t = 2
  one : oneCellFields P #[b0, b1] = true
  bool : P.underlying b0.type = some .bool
  rows : P.underlying b1.type = some (.slice e)
  line : LineTy P e s u f0 f1
theorem open_ownersV {t r e s u : TypeId} {b0 b1 f0 f1 : Field} (T : OwTy P t r e s u b0 b1 f0 f1) {rr : Reach} {bb : Nat} {v : Value} {d : DataW H} {p : List MemPlace} (hv : Value.okWide P w rr bb t v)
    (h : DataW.Trod enc P w base spare held t v d p) : ∃ b A c l, v = owV b A (List.length l) c ∧ LinesAt w A c l ∧ longO (b, lnsX l) ≤ Rows.uptoBulk d := by
  obtain ⟨cs, rfl, hsz⟩ := okWide_struct T.st hv
  obtain ⟨fuel, hf⟩ := h
  have hf : DataW.trod enc P w base spare held fuel t cs.toList = some (d, p) := hf
  obtain ⟨y0, y1, n, hx, hlen, h0, h1⟩ := trod_struct2 T.st hf
  obtain ⟨o0, k0⟩ := hone_of T.one 0 b0 rfl
  obtain ⟨o1, k1⟩ := hone_of T.one 1 b1 rfl
  rw [T.cells] at hlen
  match hcl : cs.toList, hlen with
  | [c0, c1], _ =>
    rw [hcl] at h0 h1
    have h0 : DataW.trod enc P w base spare held n b0.type [c0] = some y0 := by simpa [o0, k0] using h0
    have h1 : DataW.trod enc P w base spare held n b1.type [c1] = some y1 := by simpa [o1, k1] using h1
    obtain ⟨b, hb, hy0⟩ := DataW.trod_bool T.bool h0
    obtain ⟨A, c, l, hl, h2, h3⟩ := open_linesB T.rows T.line h1
    simp only [List.cons.injEq, and_true] at hb hl
    subst hb; subst hl
    have hc2 : cs = #[.bool b, .slice A l.length c] := by
      have := congrArg List.toArray hcl
      simpa using this
    rw [Prod.mk.injEq] at hx
    obtain ⟨rfl, _⟩ := hx
    refine ⟨b, A, c, l, by rw [hc2]; rfl, h2, ?_⟩
    simp only [Rows.uptoBulk, bulkO_all, List.map_cons, List.map_nil, List.sum_cons, List.sum_nil]
    unfold longO
    simp only
    omega
end
theorem owners_ty : ∃ b0 b1 f0 f1, OwTy Tryz.prog 24 24 62 62 9 b0 b1 f0 f1 := ⟨_, _, _, _, Tryz.underlying24, by kernel_rfl, by kernel_rfl, by kernel_rfl, by kernel_rfl, ⟨Tryz.underlying62, by kernel_rfl, by kernel_rfl, by kernel_rfl, by kernel_rfl, by kernel_rfl, by kernel_rfl⟩⟩
end Go.Proofs.YtkihgbggndikpaaGreatDoor
namespace Go.Proofs.YtkihgbggndikpaaGreatDoor
open Go Go.RowKit Go.Shelf Go.Proofs
attribute [local go_sem] Oper.semAt_some

theorem line_long (x : Ln) : (lineP x).length ≤ 10 * longLn x := by
  obtain ⟨g, ns⟩ := x
  have h2 : ∀ ns : List Bs, (ns.flatMap (fun n => 32 :: n)).length = (ns.map (fun n => 1 + n.length)).sum := by
    intro ns
    induction ns with
    | nil => rfl
    | cons n r ih => rw [List.flatMap_cons, List.length_append, ih, List.map_cons, List.sum_cons, List.length_cons]; omega
  have h3 : ∀ ns : List Bs, (ns.flatMap (fun n => n ++ [10])).length = (ns.map (fun n => 1 + n.length)).sum := by
    intro ns
    induction ns with
    | nil => rfl
    | cons n r ih => rw [List.flatMap_cons, List.length_append, ih, List.map_cons, List.sum_cons, List.length_append, List.length_singleton]; omega
  have h8 : perW.length = 8 := rfl
  unfold lineP longLn
  simp only
  split
  · rw [h3]; omega
  · rw [List.length_append, List.length_append, List.length_append, List.length_cons, List.length_singleton, h2]; omega
theorem print_long (o : Ow) : (printO o).length ≤ 13 + 10 * longO o := by
  unfold printO longO
  rw [List.length_append]
  have h1 : (if o.1 then setW ++ 32 :: nopW ++ [10] else []).length ≤ 13 := by cases o.1 <;> decide
  have h2 : ∀ l : List Ln, (l.flatMap lineP).length ≤ 10 * (l.map longLn).sum := by
    intro l
    induction l with
    | nil => exact Nat.le_refl _
    | cons x r ih =>
      have := line_long x
      rw [List.flatMap_cons, List.length_append, List.map_cons, List.sum_cons]; omega
  have := h2 o.2
  omega
theorem ns_long {L : List LX} {b : Bool} {x : LX} (hx : x ∈ L) : x.ns.length ≤ longO (b, lnsX L) := by
  have h1 : ∀ ns : List Bs, ns.length ≤ (ns.map (fun n => 1 + n.length)).sum := by
    intro ns
    induction ns with
    | nil => exact Nat.le_refl _
    | cons n r ih => rw [List.map_cons, List.sum_cons, List.length_cons]; omega
  have h2 : ∀ l : List Ln, ∀ y ∈ l, longLn y ≤ (l.map longLn).sum := by
    intro l
    induction l with
    | nil => intro y hy; cases hy
    | cons z r ih =>
      intro y hy
      rw [List.map_cons, List.sum_cons]
      rcases List.mem_cons.1 hy with rfl | hy
      · omega
      · have := ih y hy; omega
  have hm : x.ln ∈ lnsX L := List.mem_map.2 ⟨x, hx, rfl⟩
  have h3 := h2 _ _ hm
  have h4 := h1 x.ns
  unfold longO
  have h5 : (x.ns.map (fun n => 1 + n.length)).sum ≤ longLn x.ln := by unfold longLn LX.ln; simp only; omega
  simp only
  omega
theorem row_belowP {W W' : World} {b : Nat} {o : Obj} (h : W.heap[b]? = some o) (hb : Below W.heap.size W W') : W'.heap[b]? = some o := (hb.block _ (Array.getElem?_eq_some_iff.1 h).1).trans h
theorem cell_belowP {W W' : World} {p : Addr} {v : Value} (h : W.cell? p = some v) (hb : Below W.heap.size W W') : W'.cell? p = some v := (hb.cell (p := p) (World.block_lt_of_cell? W (a := p) h)).trans h

set_option maxRecDepth 100000 in
set_option maxHeartbeats 32000000 in
theorem oparses_any (s : ByteArray) (np mp : Bool) (A A2 : Option Addr) (c c2 : Nat) (L M : List LX) (w : World) (h : LinesAt w A c L) (h2 : LinesAt w A2 c2 M) (hz : longO (np, lnsX L) ≤ 1048576) (hz2 : longO (mp, lnsX M) ≤ 1048576) (hs : s.size ≤ 1000000000000000) (hm : MaxOk w) (hT : TabsOk w) :
    Calls Tryz.prog 3 #[.string s, owV np A L.length c, owV mp A2 M.length c2] w (BoolPost true w) := by
  have HK := Lib.hid (fun (W : World) (hb : Below w.heap.size w W) => oknown_any W (hm.below hb) (hT.below (Nat.le_refl _) hb))
  have HP := Lib.hid (fun (x : ByteArray) (W : World) (hb : Below w.heap.size w W) (hx : x.size ≤ 16384) => parse_any x W hx (hm.below hb) (hT.below (Nat.le_refl _) hb))
  obtain ⟨B, hB⟩ : ∃ B, w.heap.size = B := ⟨_, rfl⟩
  obtain ⟨W1, hW1⟩ : ∃ W1, w.alloc (.cells #[.bool np, .slice A L.length c] 24) = W1 := ⟨_, rfl⟩
  obtain ⟨W2, hW2⟩ : ∃ W2, W1.alloc (.cells #[.bool mp, .slice A2 M.length c2] 24) = W2 := ⟨_, rfl⟩
  have hn1 := heap_alloc_new w (.cells #[.bool np, .slice A L.length c] 24)
  have hn2 := heap_alloc_new W1 (.cells #[.bool mp, .slice A2 M.length c2] 24)
  have s1 : W1.heap.size = B + 1 := by rw [← hW1, World.size_alloc, hB]
  rw [hW1, hB] at hn1
  rw [hW2, s1] at hn2
  have b1 : Below w.heap.size w W1 := by rw [← hW1]; exact (Below.refl _ _).alloc (Nat.le_refl _) _
  have b2 : Below W1.heap.size W1 W2 := by rw [← hW2]; exact (Below.refl _ _).alloc (Nat.le_refl _) _
  have bw := b1.trans (b2.mono b1.size)
  have hn1 := row_belowP hn1 b2
  have c0 : W2.cell? ⟨B, 0, none⟩ = some (.bool np) := cell_of_row _ _ 0 _ _ _ hn1
  have c1 : W2.cell? ⟨B, 1, none⟩ = some (.slice A L.length c) := cell_of_row _ _ 1 _ _ _ hn1
  have c2' : W2.cell? ⟨B + 1, 0, none⟩ = some (.bool mp) := cell_of_row _ _ 0 _ _ _ hn2
  have c3 : W2.cell? ⟨B + 1, 1, none⟩ = some (.slice A2 M.length c2) := cell_of_row _ _ 1 _ _ _ hn2
  have HL := Lib.hid (fun (W : World) (hb : Below W2.heap.size W2 W) => (h.below bw).below hb)
  have HM := Lib.hid (fun (W : World) (hb : Below W2.heap.size W2 W) => (h2.below bw).below hb)
  have HBW := Lib.hid bw
  have HW1 := Lib.hid hW1
  have HW2 := Lib.hid hW2
  have HB := Lib.hid hB
  have KEEP1 : Hid (∀ W W' : World, (W.cell? ⟨B, 0, none⟩ = some (.bool np) ∧ W.cell? ⟨B, 1, none⟩ = some (.slice A L.length c) ∧ W.cell? ⟨B + 1, 0, none⟩ = some (.bool mp) ∧ W.cell? ⟨B + 1, 1, none⟩ = some (.slice A2 M.length c2)) → Below W.heap.size W W' → (W'.cell? ⟨B, 0, none⟩ = some (.bool np) ∧ W'.cell? ⟨B, 1, none⟩ = some (.slice A L.length c) ∧ W'.cell? ⟨B + 1, 0, none⟩ = some (.bool mp) ∧ W'.cell? ⟨B + 1, 1, none⟩ = some (.slice A2 M.length c2))) := fun W W' ⟨k0, k1, k2, k3⟩ hb => ⟨cell_belowP k0 hb, cell_belowP k1 hb, cell_belowP k2 hb, cell_belowP k3 hb⟩
  clear h h2 hW1 hW2 hn1 hn2 s1 b1 b2 bw hm hT
  unfold owV
  go_enter Tryz.func3, Tryz.ntmps3
  go_upto_region 1 with (fail)
  try rw [HB.out]
  rw [HW1.out, HW2.out]
  clear HW1 HW2 hB
  by_cases hs1 : 1500 < s.size
  · have g1 : (1500 : Int) < (s.size : Int) := by omega
    have g2 : decide ((1500 : Int) < (s.size : Int)) = true := decide_eq_true g1
    go_quiet (fail)
    go_wp2_with fail
    refine (HK.out _ (belowQ HBW.out _)).mono ?_
    rintro e w99 ⟨rfl, hb99⟩
    go_wp2_with fail
    go_ret
    exact ⟨rfl, (belowQ HBW.out _).trans (hb99.mono HBW.out.size)⟩
  · have g1 : ¬ (1500 : Int) < (s.size : Int) := by omega
    obtain ⟨V, hV⟩ : ∃ V, longO (np, lnsX L) = V := ⟨_, rfl⟩
    obtain ⟨U, hU⟩ : ∃ U, longO (mp, lnsX M) = U := ⟨_, rfl⟩
    have HLO := Lib.hid (fun (W : World) (hb : Below W2.heap.size W2 W) => reflongO_any np A c L W (HL.out W hb) (by omega))
    have HLP := Lib.hid (fun (W : World) (hb : Below W2.heap.size W2 W) => reflongO_any mp A2 c2 M W (HM.out W hb) (by omega))
    rw [hV] at HLO hz
    rw [hU] at HLP hz2
    unfold owV at HLO HLP
    have HV := Lib.hid hV
    have HU := Lib.hid hU
    have wsum : IntKind.i64.wrap ((V : Int) + (U : Int)) = (V : Int) + (U : Int) := IntWalk.i64_in _ (by omega)
    clear hV hU
    by_cases hvu : 1500 < V + U
    · have g3 : (1500 : Int) < (V : Int) + (U : Int) := by omega
      refine wp_region_held_drew (S := (fun w' => w'.cell? ⟨B, 0, none⟩ = some (.bool np) ∧ w'.cell? ⟨B, 1, none⟩ = some (.slice A L.length c) ∧ w'.cell? ⟨B + 1, 0, none⟩ = some (.bool mp) ∧ w'.cell? ⟨B + 1, 1, none⟩ = some (.slice A2 M.length c2))) (by kernel_rfl) ⟨c0, c1, c2', c3⟩ (fun hHeld => ?_)
      refine wpAnyH_take (i := 0) (v := ?va0) rfl (by kernel_rfl) (by kernel_rfl) (by kernel_rfl) (fun _ _ _ h => h) (Or.inl ⟨by rfl, ?ya0⟩) (by assumption) ?ra0
      case ya0 =>
        intro w hSw
        (try dsimp only at hSw)
        go_simp
        first | done | with_reducible rfl
      try simp only [Act.put, List.getElem_toArray, List.getElem_cons_zero, List.setIfInBounds_toArray, List.set_cons_zero, List.set_cons_succ]
      refine wpAnyH_take (i := 1) (v := ?va1) rfl (by kernel_rfl) (by kernel_rfl) (by kernel_rfl) (fun _ _ _ h => h) (Or.inl ⟨by rfl, ?ya1⟩) (by assumption) ?ra1
      case ya1 =>
        intro w hSw
        (try dsimp only at hSw)
        go_simp
        first | done | with_reducible rfl
      try simp only [Act.put, List.getElem_toArray, List.getElem_cons_zero, List.getElem_cons_succ, List.setIfInBounds_toArray, List.set_cons_zero, List.set_cons_succ]
      refine wpAnyH_take (i := 2) (v := ?va2) rfl (by kernel_rfl) (by kernel_rfl) (by kernel_rfl) (fun _ _ _ h => h) (Or.inl ⟨by rfl, ?ya2⟩) (by assumption) ?ra2
      case ya2 =>
        intro w hSw
        (try dsimp only at hSw)
        go_simp
        first | done | with_reducible rfl
      try simp only [Act.put, List.getElem_toArray, List.getElem_cons_zero, List.getElem_cons_succ, List.setIfInBounds_toArray, List.set_cons_zero, List.set_cons_succ]
      refine wpAnyH_take (i := 3) (v := ?va3) rfl (by kernel_rfl) (by kernel_rfl) (by kernel_rfl) (fun _ _ _ h => h) (Or.inl ⟨by rfl, ?ya3⟩) (by assumption) ?ra3
      case ya3 =>
        intro w hSw
        (try dsimp only at hSw)
        go_simp
        first | done | with_reducible rfl
      try simp only [Act.put, List.getElem_toArray, List.getElem_cons_zero, List.getElem_cons_succ, List.setIfInBounds_toArray, List.set_cons_zero, List.set_cons_succ]
      refine wpAnyH_take (i := 4) (v := ?va4) rfl (by kernel_rfl) (by kernel_rfl) (by kernel_rfl) (fun _ _ _ h => h) (Or.inl ⟨by rfl, ?ya4⟩) (by assumption) ?ra4
      case ya4 =>
        intro w hSw
        (try dsimp only at hSw)
        go_simp
        first | done | with_reducible rfl
      try simp only [Act.put, List.getElem_toArray, List.getElem_cons_zero, List.getElem_cons_succ, List.setIfInBounds_toArray, List.set_cons_zero, List.set_cons_succ]
      refine wpAnyH_take (i := 6) (v := ?va6) rfl (by kernel_rfl) (by kernel_rfl) (by kernel_rfl) (fun _ _ _ h => h) (Or.inl ⟨by rfl, ?ya6⟩) (by assumption) ?ra6
      case ya6 =>
        intro w hSw
        (try dsimp only at hSw)
        go_simp
        first | done | with_reducible rfl
      try simp only [Act.put, List.getElem_toArray, List.getElem_cons_zero, List.getElem_cons_succ, List.setIfInBounds_toArray, List.set_cons_zero, List.set_cons_succ]
      refine wpAnyH_ready (rs := [5]) (by kernel_rfl) (by simp) ?_
      refine AllReadyH.cons rfl (fun K hK => ?_) AllReadyH.nil
      go_simp
      refine (HLO.out _ ((Below.refl _ W2).drew)).mono ?_
      rintro e w3 ⟨rfl, hq3⟩
      have hb3 : Below W2.heap.size W2 w3 := ((Below.refl _ W2).drew).trans hq3
      go_wp2_with fail
      refine hK.out _ _ (KEEP1.out _ _ hHeld hq3) (fun hHeld => ?_)
      clear hK K
      try simp only [Act.put, List.getElem_toArray, List.getElem_cons_zero, List.getElem_cons_succ, List.setIfInBounds_toArray, List.set_cons_zero, List.set_cons_succ]
      refine wpAnyH_ready (rs := [7]) (by kernel_rfl) (by simp) ?_
      refine AllReadyH.cons rfl (fun K hK => ?_) AllReadyH.nil
      go_simp
      refine (HLP.out _ hb3).mono ?_
      rintro e w4 ⟨rfl, hq4⟩
      have hb4 : Below W2.heap.size W2 w4 := hb3.trans (hq4.mono hb3.size)
      go_wp2_with fail
      refine hK.out _ _ (KEEP1.out _ _ hHeld hq4) (fun hHeld => ?_)
      clear hK K
      try simp only [Act.put, List.getElem_toArray, List.getElem_cons_zero, List.getElem_cons_succ, List.setIfInBounds_toArray, List.set_cons_zero, List.set_cons_succ]
      refine wpAnyH_take (i := 8) (v := ?va8) rfl (by kernel_rfl) (by kernel_rfl) (by kernel_rfl) (fun _ _ _ h => h) (Or.inl ⟨by rfl, ?ya8⟩) (by assumption) ?ra8
      case ya8 =>
        intro w hSw
        (try dsimp only at hSw)
        go_simp
        first | done | with_reducible rfl
      try simp only [Act.put, List.getElem_toArray, List.getElem_cons_zero, List.getElem_cons_succ, List.setIfInBounds_toArray, List.set_cons_zero, List.set_cons_succ]
      refine wpAnyH_take (i := 9) (v := ?va9) rfl (by kernel_rfl) (by kernel_rfl) (by kernel_rfl) (fun _ _ _ h => h) (Or.inl ⟨by rfl, ?ya9⟩) (by assumption) ?ra9
      case ya9 =>
        intro w hSw
        (try dsimp only at hSw)
        go_simp
        first | done | with_reducible rfl
      try simp only [Act.put, List.getElem_toArray, List.getElem_cons_zero, List.getElem_cons_succ, List.setIfInBounds_toArray, List.set_cons_zero, List.set_cons_succ]
      refine wpAnyH_take (i := 10) (v := ?va10) rfl (by kernel_rfl) (by kernel_rfl) (by kernel_rfl) (fun _ _ _ h => h) (Or.inl ⟨by rfl, ?ya10⟩) (by assumption) ?ra10
      case ya10 =>
        intro w hSw
        (try dsimp only at hSw)
        go_simp
        first | done | with_reducible rfl
      try simp only [Act.put, List.getElem_toArray, List.getElem_cons_zero, List.getElem_cons_succ, List.setIfInBounds_toArray, List.set_cons_zero, List.set_cons_succ]
      refine wpAnyH_done (by kernel_rfl) ?_ _
      have HB4 := Lib.hid (HBW.out.trans (hb4.mono HBW.out.size))
      clear hHeld c0 c1 c2' c3
      have HKN := Lib.hid (HK.out w4 (HB4.out))
      go_wp2_with fail
      refine HKN.out.mono ?_
      rintro e w99 ⟨rfl, hb99⟩
      go_wp2_with fail
      go_ret
      exact ⟨rfl, (HB4.out).trans (hb99.mono (HB4.out).size)⟩
    · have g3 : ¬ (1500 : Int) < (V : Int) + (U : Int) := by omega
      refine wp_region_held_drew (S := (fun w' => w'.cell? ⟨B, 0, none⟩ = some (.bool np) ∧ w'.cell? ⟨B, 1, none⟩ = some (.slice A L.length c) ∧ w'.cell? ⟨B + 1, 0, none⟩ = some (.bool mp) ∧ w'.cell? ⟨B + 1, 1, none⟩ = some (.slice A2 M.length c2))) (by kernel_rfl) ⟨c0, c1, c2', c3⟩ (fun hHeld => ?_)
      refine wpAnyH_take (i := 0) (v := ?vb0) rfl (by kernel_rfl) (by kernel_rfl) (by kernel_rfl) (fun _ _ _ h => h) (Or.inl ⟨by rfl, ?yb0⟩) (by assumption) ?rb0
      case yb0 =>
        intro w hSw
        (try dsimp only at hSw)
        go_simp
        first | done | with_reducible rfl
      try simp only [Act.put, List.getElem_toArray, List.getElem_cons_zero, List.setIfInBounds_toArray, List.set_cons_zero, List.set_cons_succ]
      refine wpAnyH_take (i := 1) (v := ?vb1) rfl (by kernel_rfl) (by kernel_rfl) (by kernel_rfl) (fun _ _ _ h => h) (Or.inl ⟨by rfl, ?yb1⟩) (by assumption) ?rb1
      case yb1 =>
        intro w hSw
        (try dsimp only at hSw)
        go_simp
        first | done | with_reducible rfl
      try simp only [Act.put, List.getElem_toArray, List.getElem_cons_zero, List.getElem_cons_succ, List.setIfInBounds_toArray, List.set_cons_zero, List.set_cons_succ]
      refine wpAnyH_take (i := 2) (v := ?vb2) rfl (by kernel_rfl) (by kernel_rfl) (by kernel_rfl) (fun _ _ _ h => h) (Or.inl ⟨by rfl, ?yb2⟩) (by assumption) ?rb2
      case yb2 =>
        intro w hSw
        (try dsimp only at hSw)
        go_simp
        first | done | with_reducible rfl
      try simp only [Act.put, List.getElem_toArray, List.getElem_cons_zero, List.getElem_cons_succ, List.setIfInBounds_toArray, List.set_cons_zero, List.set_cons_succ]
      refine wpAnyH_take (i := 3) (v := ?vb3) rfl (by kernel_rfl) (by kernel_rfl) (by kernel_rfl) (fun _ _ _ h => h) (Or.inl ⟨by rfl, ?yb3⟩) (by assumption) ?rb3
      case yb3 =>
        intro w hSw
        (try dsimp only at hSw)
        go_simp
        first | done | with_reducible rfl
      try simp only [Act.put, List.getElem_toArray, List.getElem_cons_zero, List.getElem_cons_succ, List.setIfInBounds_toArray, List.set_cons_zero, List.set_cons_succ]
      refine wpAnyH_take (i := 4) (v := ?vb4) rfl (by kernel_rfl) (by kernel_rfl) (by kernel_rfl) (fun _ _ _ h => h) (Or.inl ⟨by rfl, ?yb4⟩) (by assumption) ?rb4
      case yb4 =>
        intro w hSw
        (try dsimp only at hSw)
        go_simp
        first | done | with_reducible rfl
      try simp only [Act.put, List.getElem_toArray, List.getElem_cons_zero, List.getElem_cons_succ, List.setIfInBounds_toArray, List.set_cons_zero, List.set_cons_succ]
      refine wpAnyH_take (i := 6) (v := ?vb6) rfl (by kernel_rfl) (by kernel_rfl) (by kernel_rfl) (fun _ _ _ h => h) (Or.inl ⟨by rfl, ?yb6⟩) (by assumption) ?rb6
      case yb6 =>
        intro w hSw
        (try dsimp only at hSw)
        go_simp
        first | done | with_reducible rfl
      try simp only [Act.put, List.getElem_toArray, List.getElem_cons_zero, List.getElem_cons_succ, List.setIfInBounds_toArray, List.set_cons_zero, List.set_cons_succ]
      refine wpAnyH_ready (rs := [5]) (by kernel_rfl) (by simp) ?_
      refine AllReadyH.cons rfl (fun K hK => ?_) AllReadyH.nil
      go_simp
      refine (HLO.out _ ((Below.refl _ W2).drew)).mono ?_
      rintro e w3 ⟨rfl, hq3⟩
      have hb3 : Below W2.heap.size W2 w3 := ((Below.refl _ W2).drew).trans hq3
      go_wp2_with fail
      refine hK.out _ _ (KEEP1.out _ _ hHeld hq3) (fun hHeld => ?_)
      clear hK K
      try simp only [Act.put, List.getElem_toArray, List.getElem_cons_zero, List.getElem_cons_succ, List.setIfInBounds_toArray, List.set_cons_zero, List.set_cons_succ]
      refine wpAnyH_ready (rs := [7]) (by kernel_rfl) (by simp) ?_
      refine AllReadyH.cons rfl (fun K hK => ?_) AllReadyH.nil
      go_simp
      refine (HLP.out _ hb3).mono ?_
      rintro e w4 ⟨rfl, hq4⟩
      have hb4 : Below W2.heap.size W2 w4 := hb3.trans (hq4.mono hb3.size)
      go_wp2_with fail
      refine hK.out _ _ (KEEP1.out _ _ hHeld hq4) (fun hHeld => ?_)
      clear hK K
      try simp only [Act.put, List.getElem_toArray, List.getElem_cons_zero, List.getElem_cons_succ, List.setIfInBounds_toArray, List.set_cons_zero, List.set_cons_succ]
      refine wpAnyH_take (i := 8) (v := ?vb8) rfl (by kernel_rfl) (by kernel_rfl) (by kernel_rfl) (fun _ _ _ h => h) (Or.inl ⟨by rfl, ?yb8⟩) (by assumption) ?rb8
      case yb8 =>
        intro w hSw
        (try dsimp only at hSw)
        go_simp
        first | done | with_reducible rfl
      try simp only [Act.put, List.getElem_toArray, List.getElem_cons_zero, List.getElem_cons_succ, List.setIfInBounds_toArray, List.set_cons_zero, List.set_cons_succ]
      refine wpAnyH_take (i := 9) (v := ?vb9) rfl (by kernel_rfl) (by kernel_rfl) (by kernel_rfl) (fun _ _ _ h => h) (Or.inl ⟨by rfl, ?yb9⟩) (by assumption) ?rb9
      case yb9 =>
        intro w hSw
        (try dsimp only at hSw)
        go_simp
        first | done | with_reducible rfl
      try simp only [Act.put, List.getElem_toArray, List.getElem_cons_zero, List.getElem_cons_succ, List.setIfInBounds_toArray, List.set_cons_zero, List.set_cons_succ]
      refine wpAnyH_take (i := 10) (v := ?vb10) rfl (by kernel_rfl) (by kernel_rfl) (by kernel_rfl) (fun _ _ _ h => h) (Or.inl ⟨by rfl, ?yb10⟩) (by assumption) ?rb10
      case yb10 =>
        intro w hSw
        (try dsimp only at hSw)
        go_simp
        first | done | with_reducible rfl
      try simp only [Act.put, List.getElem_toArray, List.getElem_cons_zero, List.getElem_cons_succ, List.setIfInBounds_toArray, List.set_cons_zero, List.set_cons_succ]
      refine wpAnyH_done (by kernel_rfl) ?_ _
      have HB4 := Lib.hid (HBW.out.trans (hb4.mono HBW.out.size))
      have HB24 := Lib.hid hb4
      have HE4 := Lib.hid hHeld
      clear hHeld c0 c1 c2' c3 hb4 hb3 hq3 hq4 HLO HLP
      have hP5 := HP.out s w4 HB4.out (by omega)
      have hok := (parseV_ok s.data.toList).1
      obtain ⟨pv, hpv⟩ : ∃ pv, parseV s.data.toList = pv := ⟨_, rfl⟩
      have hR5 := fun (W : World) => refparse_any s W (by omega)
      unfold ParsePost at hP5 hR5
      rw [hpv] at hP5 hR5 hok
      obtain ⟨e1, np1, ls⟩ := pv
      simp only at hP5 hR5 hok
      have HP5 := Lib.hid hP5
      have HR5 := Lib.hid hR5
      clear hP5 hR5 hpv
      go_wp2_with fail
      refine HP5.out.mono ?_
      clear HP5
      rintro e w5 ⟨v5, rfl, ho5, hb5⟩
      obtain ⟨A7, c7, l7, rfl, hL7, hl7⟩ := ow_agg ho5
      simp only at hl7
      have hn7 := heap_alloc_new w5 (.cells #[.bool np1, .slice A7 l7.length c7] 24)
      have hbn7 : Below w5.heap.size w5 (w5.alloc (.cells #[.bool np1, .slice A7 l7.length c7] 24)) := (Below.refl _ _).alloc (Nat.le_refl _) _
      obtain ⟨W5, hW5⟩ : ∃ W, w5.alloc (.cells #[.bool np1, .slice A7 l7.length c7] 24) = W := ⟨_, rfl⟩
      rw [hW5] at hn7 hbn7
      obtain ⟨b7, hb7⟩ : ∃ b, w5.heap.size = b := ⟨_, rfl⟩
      rw [hb7] at hn7
      have HW5 := Lib.hid hW5
      have HB7 := Lib.hid hb7
      have HB5 := Lib.hid ((HB4.out.trans (hb5.mono HB4.out.size)).trans (hbn7.mono (HB4.out.trans (hb5.mono HB4.out.size)).size))
      have HB45 := Lib.hid (hb5.trans (hbn7.mono hb5.size))
      have HL7 := Lib.hid (hL7.below hbn7)
      have HN7 := Lib.hid hn7
      have HE7 := Lib.hid hl7
      clear hn7 hbn7 hW5 hb7 ho5 hL7 hl7 hb5
      go_upto_region 4 with (fail)
      rw [HW5.out]
      try rw [HB7.out]
      clear HW5
      go_wp2_with fail
      refine (HR5.out W5).mono ?_
      clear HR5
      rintro e w6 ⟨v6, rfl, ho6, hb6⟩
      obtain ⟨A9, c9, l9, rfl, hL9, hl9⟩ := ow_agg ho6
      simp only at hl9
      have hn9 := heap_alloc_new w6 (.cells #[.bool np1, .slice A9 l9.length c9] 24)
      have hbn9 : Below w6.heap.size w6 (w6.alloc (.cells #[.bool np1, .slice A9 l9.length c9] 24)) := (Below.refl _ _).alloc (Nat.le_refl _) _
      obtain ⟨W6, hW6⟩ : ∃ W, w6.alloc (.cells #[.bool np1, .slice A9 l9.length c9] 24) = W := ⟨_, rfl⟩
      rw [hW6] at hn9 hbn9
      obtain ⟨b9, hb9⟩ : ∃ b, w6.heap.size = b := ⟨_, rfl⟩
      rw [hb9] at hn9
      have HW6 := Lib.hid hW6
      have HB9 := Lib.hid hb9
      have hb56 : Below W5.heap.size W5 W6 := hb6.trans (hbn9.mono hb6.size)
      have HB6 := Lib.hid (HB5.out.trans (hb56.mono HB5.out.size))
      have hb46 : Below w4.heap.size w4 W6 := HB45.out.trans (hb56.mono HB45.out.size)
      have hb26 : Below W2.heap.size W2 W6 := HB24.out.trans (hb46.mono HB24.out.size)
      have HN7b := Lib.hid (row_belowP HN7.out hb56)
      have HL7b := Lib.hid (HL7.out.below hb56)
      have HL9 := Lib.hid (hL9.below hbn9)
      obtain ⟨k0, k1, k2, k3⟩ := KEEP1.out _ _ HE4.out hb46
      have HLL := Lib.hid (HL.out W6 hb26)
      have HMM := Lib.hid (HM.out W6 hb26)
      have HN9 := Lib.hid hn9
      have HE9 := Lib.hid hl9
      have KK := Lib.hid (And.intro k0 (And.intro k1 (And.intro k2 k3)))
      clear hn9 hbn9 hW6 hb9 ho6 hL9 hl9 hb6 hb56 hb46 hb26 k0 k1 k2 k3 HL HM HN7 HL7 HE4
      go_upto_region 5 with (fail)
      rw [HW6.out]
      try rw [HB9.out]
      clear HW6
      obtain ⟨c0, c1, c2', c3⟩ := KK.out
      have c4 : W6.cell? ⟨b7, 0, none⟩ = some (.bool np1) := cell_of_row _ _ 0 _ _ _ HN7b.out
      have c5 : W6.cell? ⟨b7, 1, none⟩ = some (.slice A7 l7.length c7) := cell_of_row _ _ 1 _ _ _ HN7b.out
      have c6 : W6.cell? ⟨b9, 0, none⟩ = some (.bool np1) := cell_of_row _ _ 0 _ _ _ HN9.out
      have c7' : W6.cell? ⟨b9, 1, none⟩ = some (.slice A9 l9.length c9) := cell_of_row _ _ 1 _ _ _ HN9.out
      have KEEP5 : Hid (∀ W W' : World, (W.cell? ⟨B, 0, none⟩ = some (.bool np) ∧ W.cell? ⟨B, 1, none⟩ = some (.slice A L.length c) ∧ W.cell? ⟨B + 1, 0, none⟩ = some (.bool mp) ∧ W.cell? ⟨B + 1, 1, none⟩ = some (.slice A2 M.length c2) ∧ W.cell? ⟨b7, 0, none⟩ = some (.bool np1) ∧ W.cell? ⟨b7, 1, none⟩ = some (.slice A7 l7.length c7) ∧ W.cell? ⟨b9, 0, none⟩ = some (.bool np1) ∧ W.cell? ⟨b9, 1, none⟩ = some (.slice A9 l9.length c9)) → Below W.heap.size W W' → (W'.cell? ⟨B, 0, none⟩ = some (.bool np) ∧ W'.cell? ⟨B, 1, none⟩ = some (.slice A L.length c) ∧ W'.cell? ⟨B + 1, 0, none⟩ = some (.bool mp) ∧ W'.cell? ⟨B + 1, 1, none⟩ = some (.slice A2 M.length c2) ∧ W'.cell? ⟨b7, 0, none⟩ = some (.bool np1) ∧ W'.cell? ⟨b7, 1, none⟩ = some (.slice A7 l7.length c7) ∧ W'.cell? ⟨b9, 0, none⟩ = some (.bool np1) ∧ W'.cell? ⟨b9, 1, none⟩ = some (.slice A9 l9.length c9))) := fun W W' ⟨k0, k1, k2, k3, k4, k5, k6, k7⟩ hb => ⟨cell_belowP k0 hb, cell_belowP k1 hb, cell_belowP k2 hb, cell_belowP k3 hb, cell_belowP k4 hb, cell_belowP k5 hb, cell_belowP k6 hb, cell_belowP k7 hb⟩
      have hz7 : ∀ x ∈ l7, x.ns.length ≤ 9000000000000 := fun x hx => by
        have := (hok x.ln (by rw [← HE7.out]; exact List.mem_map.2 ⟨x, hx, rfl⟩)).2.1
        have : x.ns.length ≤ 16385 := this
        omega
      have hz9 : ∀ x ∈ l9, x.ns.length ≤ 9000000000000 := fun x hx => by
        have := (hok x.ln (by rw [← HE9.out]; exact List.mem_map.2 ⟨x, hx, rfl⟩)).2.1
        have : x.ns.length ≤ 16385 := this
        omega
      have hzL : ∀ x ∈ L, x.ns.length ≤ 9000000000000 := fun x hx => by have := ns_long (b := np) hx; rw [HV.out] at this; omega
      have hzM : ∀ x ∈ M, x.ns.length ≤ 9000000000000 := fun x hx => by have := ns_long (b := mp) hx; rw [HU.out] at this; omega
      have hpr := print_long (np, lnsX L)
      rw [HV.out] at hpr
      have H0 := Lib.hid (fun (W : World) (hb : Below W6.heap.size W6 W) => refsameO_any np1 np1 A7 A9 c7 c9 l7 l9 W (HL7b.out.below hb) (HL9.out.below hb) hz7 hz9)
      rw [HE7.out, HE9.out, decide_eq_true rfl] at H0
      have H1 := Lib.hid (fun (W : World) => named_any s W (by unfold maxLen; omega))
      have H2 := Lib.hid (fun (W : World) => refnamed_any s W (by unfold maxLen; omega))
      have H3 := Lib.hid (fun (W : World) (hb : Below W6.heap.size W6 W) => oprint_any np A c L W (HLL.out.below hb) (by omega))
      have H4 := Lib.hid (fun (W : World) (hb : Below W6.heap.size W6 W) => refprint_any np A c L W (HLL.out.below hb) (by omega))
      have H5 := Lib.hid (fun (W : World) (hb : Below W6.heap.size W6 W) => osame_any (owV np A L.length c) (owV mp A2 M.length c2) (np, lnsX L) (mp, lnsX M) W ⟨A, c, L, rfl, HLL.out.below hb, rfl⟩ ⟨A2, c2, M, rfl, HMM.out.below hb, rfl⟩)
      have H6 := Lib.hid (fun (W : World) (hb : Below W6.heap.size W6 W) => refsameO_any np mp A A2 c c2 L M W (HLL.out.below hb) (HMM.out.below hb) hzL hzM)
      have H7 := Lib.hid (fun (W : World) (hb : Below W6.heap.size W6 W) => osame_any (owV np A L.length c) (owV np A L.length c) (np, lnsX L) (np, lnsX L) W ⟨A, c, L, rfl, HLL.out.below hb, rfl⟩ ⟨A, c, L, rfl, HLL.out.below hb, rfl⟩)
      rw [decide_eq_true rfl] at H7
      have H8 := Lib.hid (fun (W : World) (hb : Below W6.heap.size W6 W) => HK.out W (HB6.out.trans (hb.mono HB6.out.size)))
      obtain ⟨N, hN⟩ : ∃ N, namedB s.data.toList = N := ⟨_, rfl⟩
      obtain ⟨P, hP⟩ : ∃ P, mkB (printO (np, lnsX L)) = P := ⟨_, rfl⟩
      obtain ⟨D, hD⟩ : ∃ D, decide ((np, lnsX L) = (mp, lnsX M)) = D := ⟨_, rfl⟩
      rw [hN] at H1 H2
      rw [hP] at H3 H4
      rw [hD] at H5 H6
      unfold owV at H0 H3 H4 H5 H6 H7
      have hD0 : Below W6.heap.size W6 W6.drew := (Below.refl _ W6).drew
      clear hN hP hD hz7 hz9 hzL hzM hpr hok KK
      refine wp_region_held_drew (S := (fun w' => w'.cell? ⟨B, 0, none⟩ = some (.bool np) ∧ w'.cell? ⟨B, 1, none⟩ = some (.slice A L.length c) ∧ w'.cell? ⟨B + 1, 0, none⟩ = some (.bool mp) ∧ w'.cell? ⟨B + 1, 1, none⟩ = some (.slice A2 M.length c2) ∧ w'.cell? ⟨b7, 0, none⟩ = some (.bool np1) ∧ w'.cell? ⟨b7, 1, none⟩ = some (.slice A7 l7.length c7) ∧ w'.cell? ⟨b9, 0, none⟩ = some (.bool np1) ∧ w'.cell? ⟨b9, 1, none⟩ = some (.slice A9 l9.length c9))) (by kernel_rfl) ⟨c0, c1, c2', c3, c4, c5, c6, c7'⟩ (fun hHeld => ?_)
      refine wpAnyH_take (i := 0) (v := ?vz0) rfl (by kernel_rfl) (by kernel_rfl) (by kernel_rfl) (fun _ _ _ h => h) (Or.inl ⟨by rfl, ?yz0⟩) (by assumption) ?rz0
      case yz0 =>
        intro w hSw
        (try dsimp only at hSw)
        go_simp
        first | done | with_reducible rfl
      try simp only [Act.put, List.getElem_toArray, List.getElem_cons_zero, List.setIfInBounds_toArray, List.set_cons_zero, List.set_cons_succ]
      refine wpAnyH_take (i := 1) (v := ?vz1) rfl (by kernel_rfl) (by kernel_rfl) (by kernel_rfl) (fun _ _ _ h => h) (Or.inl ⟨by rfl, ?yz1⟩) (by assumption) ?rz1
      case yz1 =>
        intro w hSw
        (try dsimp only at hSw)
        go_simp
        first | done | with_reducible rfl
      try simp only [Act.put, List.getElem_toArray, List.getElem_cons_zero, List.getElem_cons_succ, List.setIfInBounds_toArray, List.set_cons_zero, List.set_cons_succ]
      refine wpAnyH_ready (rs := [2]) (by kernel_rfl) (by simp) ?_
      refine AllReadyH.cons rfl (fun K hK => ?_) AllReadyH.nil
      go_simp
      refine (H0.out _ hD0).mono ?_
      rintro e x0 ⟨rfl, hq0⟩
      have hx0 : Below W6.heap.size W6 x0 := Below.trans hD0 (hq0.mono (Below.size hD0))
      go_wp2_with fail
      refine hK.out _ _ (KEEP5.out _ _ hHeld hq0) (fun hHeld => ?_)
      clear hK K
      try simp only [Act.put, List.getElem_toArray, List.getElem_cons_zero, List.getElem_cons_succ, List.setIfInBounds_toArray, List.set_cons_zero, List.set_cons_succ]
      refine wpAnyH_take (i := 3) (v := ?vz3) rfl (by kernel_rfl) (by kernel_rfl) (by kernel_rfl) (fun _ _ _ h => h) (Or.inl ⟨by rfl, ?yz3⟩) (by assumption) ?rz3
      case yz3 =>
        intro w hSw
        (try dsimp only at hSw)
        go_simp
        first | done | with_reducible rfl
      try simp only [Act.put, List.getElem_toArray, List.getElem_cons_zero, List.getElem_cons_succ, List.setIfInBounds_toArray, List.set_cons_zero, List.set_cons_succ]
      refine wpAnyH_take (i := 4) (v := ?vz4) rfl (by kernel_rfl) (by kernel_rfl) (by kernel_rfl) (fun _ _ _ h => h) (Or.inl ⟨by rfl, ?yz4⟩) (by assumption) ?rz4
      case yz4 =>
        intro w hSw
        (try dsimp only at hSw)
        go_simp
        first | done | with_reducible rfl
      try simp only [Act.put, List.getElem_toArray, List.getElem_cons_zero, List.getElem_cons_succ, List.setIfInBounds_toArray, List.set_cons_zero, List.set_cons_succ]
      refine wpAnyH_take (i := 5) (v := ?vz5) rfl (by kernel_rfl) (by kernel_rfl) (by kernel_rfl) (fun _ _ _ h => h) (Or.inl ⟨by rfl, ?yz5⟩) (by assumption) ?rz5
      case yz5 =>
        intro w hSw
        (try dsimp only at hSw)
        go_simp
        first | done | with_reducible rfl
      try simp only [Act.put, List.getElem_toArray, List.getElem_cons_zero, List.getElem_cons_succ, List.setIfInBounds_toArray, List.set_cons_zero, List.set_cons_succ]
      refine wpAnyH_take (i := 6) (v := ?vz6) rfl (by kernel_rfl) (by kernel_rfl) (by kernel_rfl) (fun _ _ _ h => h) (Or.inl ⟨by rfl, ?yz6⟩) (by assumption) ?rz6
      case yz6 =>
        intro w hSw
        (try dsimp only at hSw)
        go_simp
        first | done | with_reducible rfl
      try simp only [Act.put, List.getElem_toArray, List.getElem_cons_zero, List.getElem_cons_succ, List.setIfInBounds_toArray, List.set_cons_zero, List.set_cons_succ]
      refine wpAnyH_take (i := 7) (v := ?vz7) rfl (by kernel_rfl) (by kernel_rfl) (by kernel_rfl) (fun _ _ _ h => h) (Or.inl ⟨by rfl, ?yz7⟩) (by assumption) ?rz7
      case yz7 =>
        intro w hSw
        (try dsimp only at hSw)
        go_simp
        first | done | with_reducible rfl
      try simp only [Act.put, List.getElem_toArray, List.getElem_cons_zero, List.getElem_cons_succ, List.setIfInBounds_toArray, List.set_cons_zero, List.set_cons_succ]
      refine wpAnyH_take (i := 8) (v := ?vz8) rfl (by kernel_rfl) (by kernel_rfl) (by kernel_rfl) (fun _ _ _ h => h) (Or.inl ⟨by rfl, ?yz8⟩) (by assumption) ?rz8
      case yz8 =>
        intro w hSw
        (try dsimp only at hSw)
        go_simp
        first | done | with_reducible rfl
      try simp only [Act.put, List.getElem_toArray, List.getElem_cons_zero, List.getElem_cons_succ, List.setIfInBounds_toArray, List.set_cons_zero, List.set_cons_succ]
      refine wpAnyH_take (i := 9) (v := ?vz9) rfl (by kernel_rfl) (by kernel_rfl) (by kernel_rfl) (fun _ _ _ h => h) (Or.inl ⟨by rfl, ?yz9⟩) (by assumption) ?rz9
      case yz9 =>
        intro w hSw
        (try dsimp only at hSw)
        go_simp
        first | done | with_reducible rfl
      try simp only [Act.put, List.getElem_toArray, List.getElem_cons_zero, List.getElem_cons_succ, List.setIfInBounds_toArray, List.set_cons_zero, List.set_cons_succ]
      refine wpAnyH_take (i := 11) (v := ?vz11) rfl (by kernel_rfl) (by kernel_rfl) (by kernel_rfl) (fun _ _ _ h => h) (Or.inl ⟨by rfl, ?yz11⟩) (by assumption) ?rz11
      case yz11 =>
        intro w hSw
        (try dsimp only at hSw)
        go_simp
        first | done | with_reducible rfl
      try simp only [Act.put, List.getElem_toArray, List.getElem_cons_zero, List.getElem_cons_succ, List.setIfInBounds_toArray, List.set_cons_zero, List.set_cons_succ]
      refine wpAnyH_ready (rs := [10]) (by kernel_rfl) (by simp) ?_
      refine AllReadyH.cons rfl (fun K hK => ?_) AllReadyH.nil
      go_simp
      refine (H1.out _).mono ?_
      rintro e w' ⟨rfl, hw⟩
      have hw := hw.symm
      subst hw
      go_wp2_with fail
      refine hK.out _ _ hHeld (fun hHeld => ?_)
      clear hK K
      try simp only [Act.put, List.getElem_toArray, List.getElem_cons_zero, List.getElem_cons_succ, List.setIfInBounds_toArray, List.set_cons_zero, List.set_cons_succ]
      refine wpAnyH_ready (rs := [12]) (by kernel_rfl) (by simp) ?_
      refine AllReadyH.cons rfl (fun K hK => ?_) AllReadyH.nil
      go_simp
      refine (H2.out _).mono ?_
      rintro e w' ⟨rfl, hw⟩
      have hw := hw.symm
      subst hw
      go_wp2_with fail
      refine hK.out _ _ hHeld (fun hHeld => ?_)
      clear hK K
      try simp only [Act.put, List.getElem_toArray, List.getElem_cons_zero, List.getElem_cons_succ, List.setIfInBounds_toArray, List.set_cons_zero, List.set_cons_succ]
      refine wpAnyH_take (i := 13) (v := ?vz13) rfl (by kernel_rfl) (by kernel_rfl) (by kernel_rfl) (fun _ _ _ h => h) (Or.inl ⟨by rfl, ?yz13⟩) (by assumption) ?rz13
      case yz13 =>
        intro w hSw
        (try dsimp only at hSw)
        go_simp
        first | done | with_reducible rfl
      try simp only [Act.put, List.getElem_toArray, List.getElem_cons_zero, List.getElem_cons_succ, List.setIfInBounds_toArray, List.set_cons_zero, List.set_cons_succ]
      refine wpAnyH_take (i := 14) (v := ?vz14) rfl (by kernel_rfl) (by kernel_rfl) (by kernel_rfl) (fun _ _ _ h => h) (Or.inl ⟨by rfl, ?yz14⟩) (by assumption) ?rz14
      case yz14 =>
        intro w hSw
        (try dsimp only at hSw)
        go_simp
        first | done | with_reducible rfl
      try simp only [Act.put, List.getElem_toArray, List.getElem_cons_zero, List.getElem_cons_succ, List.setIfInBounds_toArray, List.set_cons_zero, List.set_cons_succ]
      refine wpAnyH_take (i := 15) (v := ?vz15) rfl (by kernel_rfl) (by kernel_rfl) (by kernel_rfl) (fun _ _ _ h => h) (Or.inl ⟨by rfl, ?yz15⟩) (by assumption) ?rz15
      case yz15 =>
        intro w hSw
        (try dsimp only at hSw)
        go_simp
        first | done | with_reducible rfl
      try simp only [Act.put, List.getElem_toArray, List.getElem_cons_zero, List.getElem_cons_succ, List.setIfInBounds_toArray, List.set_cons_zero, List.set_cons_succ]
      refine wpAnyH_take (i := 16) (v := ?vz16) rfl (by kernel_rfl) (by kernel_rfl) (by kernel_rfl) (fun _ _ _ h => h) (Or.inl ⟨by rfl, ?yz16⟩) (by assumption) ?rz16
      case yz16 =>
        intro w hSw
        (try dsimp only at hSw)
        go_simp
        first | done | with_reducible rfl
      try simp only [Act.put, List.getElem_toArray, List.getElem_cons_zero, List.getElem_cons_succ, List.setIfInBounds_toArray, List.set_cons_zero, List.set_cons_succ]
      refine wpAnyH_take (i := 18) (v := ?vz18) rfl (by kernel_rfl) (by kernel_rfl) (by kernel_rfl) (fun _ _ _ h => h) (Or.inl ⟨by rfl, ?yz18⟩) (by assumption) ?rz18
      case yz18 =>
        intro w hSw
        (try dsimp only at hSw)
        go_simp
        first | done | with_reducible rfl
      try simp only [Act.put, List.getElem_toArray, List.getElem_cons_zero, List.getElem_cons_succ, List.setIfInBounds_toArray, List.set_cons_zero, List.set_cons_succ]
      refine wpAnyH_ready (rs := [17]) (by kernel_rfl) (by simp) ?_
      refine AllReadyH.cons rfl (fun K hK => ?_) AllReadyH.nil
      go_simp
      refine (H3.out _ hx0).mono ?_
      rintro e x3 ⟨rfl, hq3⟩
      have hx3 : Below W6.heap.size W6 x3 := Below.trans hx0 (hq3.mono (Below.size hx0))
      go_wp2_with fail
      refine hK.out _ _ (KEEP5.out _ _ hHeld hq3) (fun hHeld => ?_)
      clear hK K
      try simp only [Act.put, List.getElem_toArray, List.getElem_cons_zero, List.getElem_cons_succ, List.setIfInBounds_toArray, List.set_cons_zero, List.set_cons_succ]
      refine wpAnyH_ready (rs := [19]) (by kernel_rfl) (by simp) ?_
      refine AllReadyH.cons rfl (fun K hK => ?_) AllReadyH.nil
      go_simp
      refine (H4.out _ hx3).mono ?_
      rintro e x4 ⟨rfl, hq4⟩
      have hx4 : Below W6.heap.size W6 x4 := Below.trans hx3 (hq4.mono (Below.size hx3))
      go_wp2_with fail
      refine hK.out _ _ (KEEP5.out _ _ hHeld hq4) (fun hHeld => ?_)
      clear hK K
      try simp only [Act.put, List.getElem_toArray, List.getElem_cons_zero, List.getElem_cons_succ, List.setIfInBounds_toArray, List.set_cons_zero, List.set_cons_succ]
      refine wpAnyH_take (i := 20) (v := ?vz20) rfl (by kernel_rfl) (by kernel_rfl) (by kernel_rfl) (fun _ _ _ h => h) (Or.inl ⟨by rfl, ?yz20⟩) (by assumption) ?rz20
      case yz20 =>
        intro w hSw
        (try dsimp only at hSw)
        go_simp
        first | done | with_reducible rfl
      try simp only [Act.put, List.getElem_toArray, List.getElem_cons_zero, List.getElem_cons_succ, List.setIfInBounds_toArray, List.set_cons_zero, List.set_cons_succ]
      refine wpAnyH_take (i := 21) (v := ?vz21) rfl (by kernel_rfl) (by kernel_rfl) (by kernel_rfl) (fun _ _ _ h => h) (Or.inl ⟨by rfl, ?yz21⟩) (by assumption) ?rz21
      case yz21 =>
        intro w hSw
        (try dsimp only at hSw)
        go_simp
        first | done | with_reducible rfl
      try simp only [Act.put, List.getElem_toArray, List.getElem_cons_zero, List.getElem_cons_succ, List.setIfInBounds_toArray, List.set_cons_zero, List.set_cons_succ]
      refine wpAnyH_take (i := 22) (v := ?vz22) rfl (by kernel_rfl) (by kernel_rfl) (by kernel_rfl) (fun _ _ _ h => h) (Or.inl ⟨by rfl, ?yz22⟩) (by assumption) ?rz22
      case yz22 =>
        intro w hSw
        (try dsimp only at hSw)
        go_simp
        first | done | with_reducible rfl
      try simp only [Act.put, List.getElem_toArray, List.getElem_cons_zero, List.getElem_cons_succ, List.setIfInBounds_toArray, List.set_cons_zero, List.set_cons_succ]
      refine wpAnyH_take (i := 23) (v := ?vz23) rfl (by kernel_rfl) (by kernel_rfl) (by kernel_rfl) (fun _ _ _ h => h) (Or.inl ⟨by rfl, ?yz23⟩) (by assumption) ?rz23
      case yz23 =>
        intro w hSw
        (try dsimp only at hSw)
        go_simp
        first | done | with_reducible rfl
      try simp only [Act.put, List.getElem_toArray, List.getElem_cons_zero, List.getElem_cons_succ, List.setIfInBounds_toArray, List.set_cons_zero, List.set_cons_succ]
      refine wpAnyH_take (i := 24) (v := ?vz24) rfl (by kernel_rfl) (by kernel_rfl) (by kernel_rfl) (fun _ _ _ h => h) (Or.inl ⟨by rfl, ?yz24⟩) (by assumption) ?rz24
      case yz24 =>
        intro w hSw
        (try dsimp only at hSw)
        go_simp
        first | done | with_reducible rfl
      try simp only [Act.put, List.getElem_toArray, List.getElem_cons_zero, List.getElem_cons_succ, List.setIfInBounds_toArray, List.set_cons_zero, List.set_cons_succ]
      refine wpAnyH_take (i := 26) (v := ?vz26) rfl (by kernel_rfl) (by kernel_rfl) (by kernel_rfl) (fun _ _ _ h => h) (Or.inl ⟨by rfl, ?yz26⟩) (by assumption) ?rz26
      case yz26 =>
        intro w hSw
        (try dsimp only at hSw)
        go_simp
        first | done | with_reducible rfl
      try simp only [Act.put, List.getElem_toArray, List.getElem_cons_zero, List.getElem_cons_succ, List.setIfInBounds_toArray, List.set_cons_zero, List.set_cons_succ]
      refine wpAnyH_take (i := 27) (v := ?vz27) rfl (by kernel_rfl) (by kernel_rfl) (by kernel_rfl) (fun _ _ _ h => h) (Or.inl ⟨by rfl, ?yz27⟩) (by assumption) ?rz27
      case yz27 =>
        intro w hSw
        (try dsimp only at hSw)
        go_simp
        first | done | with_reducible rfl
      try simp only [Act.put, List.getElem_toArray, List.getElem_cons_zero, List.getElem_cons_succ, List.setIfInBounds_toArray, List.set_cons_zero, List.set_cons_succ]
      refine wpAnyH_ready (rs := [25]) (by kernel_rfl) (by simp) ?_
      refine AllReadyH.cons rfl (fun K hK => ?_) AllReadyH.nil
      go_simp
      refine (H5.out _ hx4).mono ?_
      rintro e x5 ⟨rfl, hq5⟩
      have hx5 : Below W6.heap.size W6 x5 := Below.trans hx4 (hq5.mono (Below.size hx4))
      go_wp2_with fail
      refine hK.out _ _ (KEEP5.out _ _ hHeld hq5) (fun hHeld => ?_)
      clear hK K
      try simp only [Act.put, List.getElem_toArray, List.getElem_cons_zero, List.getElem_cons_succ, List.setIfInBounds_toArray, List.set_cons_zero, List.set_cons_succ]
      refine wpAnyH_ready (rs := [28]) (by kernel_rfl) (by simp) ?_
      refine AllReadyH.cons rfl (fun K hK => ?_) AllReadyH.nil
      go_simp
      refine (H6.out _ hx5).mono ?_
      rintro e x6 ⟨rfl, hq6⟩
      have hx6 : Below W6.heap.size W6 x6 := Below.trans hx5 (hq6.mono (Below.size hx5))
      go_wp2_with fail
      refine hK.out _ _ (KEEP5.out _ _ hHeld hq6) (fun hHeld => ?_)
      clear hK K
      try simp only [Act.put, List.getElem_toArray, List.getElem_cons_zero, List.getElem_cons_succ, List.setIfInBounds_toArray, List.set_cons_zero, List.set_cons_succ]
      refine wpAnyH_take (i := 29) (v := ?vz29) rfl (by kernel_rfl) (by kernel_rfl) (by kernel_rfl) (fun _ _ _ h => h) (Or.inl ⟨by rfl, ?yz29⟩) (by assumption) ?rz29
      case yz29 =>
        intro w hSw
        (try dsimp only at hSw)
        go_simp
        first | done | with_reducible rfl
      try simp only [Act.put, List.getElem_toArray, List.getElem_cons_zero, List.getElem_cons_succ, List.setIfInBounds_toArray, List.set_cons_zero, List.set_cons_succ]
      refine wpAnyH_take (i := 30) (v := ?vz30) rfl (by kernel_rfl) (by kernel_rfl) (by kernel_rfl) (fun _ _ _ h => h) (Or.inl ⟨by rfl, ?yz30⟩) (by assumption) ?rz30
      case yz30 =>
        intro w hSw
        (try dsimp only at hSw)
        go_simp
        first | done | with_reducible rfl
      try simp only [Act.put, List.getElem_toArray, List.getElem_cons_zero, List.getElem_cons_succ, List.setIfInBounds_toArray, List.set_cons_zero, List.set_cons_succ]
      refine wpAnyH_take (i := 31) (v := ?vz31) rfl (by kernel_rfl) (by kernel_rfl) (by kernel_rfl) (fun _ _ _ h => h) (Or.inl ⟨by rfl, ?yz31⟩) (by assumption) ?rz31
      case yz31 =>
        intro w hSw
        (try dsimp only at hSw)
        go_simp
        first | done | with_reducible rfl
      try simp only [Act.put, List.getElem_toArray, List.getElem_cons_zero, List.getElem_cons_succ, List.setIfInBounds_toArray, List.set_cons_zero, List.set_cons_succ]
      refine wpAnyH_take (i := 32) (v := ?vz32) rfl (by kernel_rfl) (by kernel_rfl) (by kernel_rfl) (fun _ _ _ h => h) (Or.inl ⟨by rfl, ?yz32⟩) (by assumption) ?rz32
      case yz32 =>
        intro w hSw
        (try dsimp only at hSw)
        go_simp
        first | done | with_reducible rfl
      try simp only [Act.put, List.getElem_toArray, List.getElem_cons_zero, List.getElem_cons_succ, List.setIfInBounds_toArray, List.set_cons_zero, List.set_cons_succ]
      refine wpAnyH_take (i := 33) (v := ?vz33) rfl (by kernel_rfl) (by kernel_rfl) (by kernel_rfl) (fun _ _ _ h => h) (Or.inl ⟨by rfl, ?yz33⟩) (by assumption) ?rz33
      case yz33 =>
        intro w hSw
        (try dsimp only at hSw)
        go_simp
        first | done | with_reducible rfl
      try simp only [Act.put, List.getElem_toArray, List.getElem_cons_zero, List.getElem_cons_succ, List.setIfInBounds_toArray, List.set_cons_zero, List.set_cons_succ]
      refine wpAnyH_ready (rs := [34]) (by kernel_rfl) (by simp) ?_
      refine AllReadyH.cons rfl (fun K hK => ?_) AllReadyH.nil
      go_simp
      refine (H7.out _ hx6).mono ?_
      rintro e x7 ⟨rfl, hq7⟩
      have hx7 : Below W6.heap.size W6 x7 := Below.trans hx6 (hq7.mono (Below.size hx6))
      go_wp2_with fail
      refine hK.out _ _ (KEEP5.out _ _ hHeld hq7) (fun hHeld => ?_)
      clear hK K
      try simp only [Act.put, List.getElem_toArray, List.getElem_cons_zero, List.getElem_cons_succ, List.setIfInBounds_toArray, List.set_cons_zero, List.set_cons_succ]
      refine wpAnyH_take (i := 35) (v := ?vz35) rfl (by kernel_rfl) (by kernel_rfl) (by kernel_rfl) (fun _ _ _ h => h) (Or.inl ⟨by rfl, ?yz35⟩) (by assumption) ?rz35
      case yz35 =>
        intro w hSw
        (try dsimp only at hSw)
        go_simp
        first | done | with_reducible rfl
      try simp only [Act.put, List.getElem_toArray, List.getElem_cons_zero, List.getElem_cons_succ, List.setIfInBounds_toArray, List.set_cons_zero, List.set_cons_succ]
      refine wpAnyH_take (i := 36) (v := ?vz36) rfl (by kernel_rfl) (by kernel_rfl) (by kernel_rfl) (fun _ _ _ h => h) (Or.inl ⟨by rfl, ?yz36⟩) (by assumption) ?rz36
      case yz36 =>
        intro w hSw
        (try dsimp only at hSw)
        go_simp
        first | done | with_reducible rfl
      try simp only [Act.put, List.getElem_toArray, List.getElem_cons_zero, List.getElem_cons_succ, List.setIfInBounds_toArray, List.set_cons_zero, List.set_cons_succ]
      refine wpAnyH_ready (rs := [37]) (by kernel_rfl) (by simp) ?_
      refine AllReadyH.cons rfl (fun K hK => ?_) AllReadyH.nil
      go_simp
      refine (H8.out _ hx7).mono ?_
      rintro e x8 ⟨rfl, hq8⟩
      have hx8 : Below W6.heap.size W6 x8 := Below.trans hx7 (hq8.mono (Below.size hx7))
      go_wp2_with fail
      refine hK.out _ _ (KEEP5.out _ _ hHeld hq8) (fun hHeld => ?_)
      clear hK K
      try simp only [Act.put, List.getElem_toArray, List.getElem_cons_zero, List.getElem_cons_succ, List.setIfInBounds_toArray, List.set_cons_zero, List.set_cons_succ]
      refine wpAnyH_take (i := 38) (v := ?vz38) rfl (by kernel_rfl) (by kernel_rfl) (by kernel_rfl) (fun _ _ _ h => h) (Or.inl ⟨by rfl, ?yz38⟩) (by assumption) ?rz38
      case yz38 =>
        intro w hSw
        (try dsimp only at hSw)
        go_simp
        first | done | with_reducible rfl
      try simp only [Act.put, List.getElem_toArray, List.getElem_cons_zero, List.getElem_cons_succ, List.setIfInBounds_toArray, List.set_cons_zero, List.set_cons_succ]
      refine wpAnyH_take (i := 39) (v := ?vz39) rfl (by kernel_rfl) (by kernel_rfl) (by kernel_rfl) (fun _ _ _ h => h) (Or.inl ⟨by rfl, ?yz39⟩) (by assumption) ?rz39
      case yz39 =>
        intro w hSw
        (try dsimp only at hSw)
        go_simp
        first | done | with_reducible rfl
      try simp only [Act.put, List.getElem_toArray, List.getElem_cons_zero, List.getElem_cons_succ, List.setIfInBounds_toArray, List.set_cons_zero, List.set_cons_succ]
      refine wpAnyH_done (by kernel_rfl) ?_ _
      have HX8 := Lib.hid (HB6.out.trans (hx8.mono HB6.out.size))
      go_wp2_with fail
      go_ret
      exact ⟨rfl, HX8.out⟩
end Go.Proofs.YtkihgbggndikpaaGreatDoor
