/-
  strings.FieldsFuncSeq at the blank: the words come, one by one. The library's tables of utf8 are as they were laid.
-/
import Derived.Test.YtkihgbggndikpaaGreatDoorOwWords
import Derived.Test.YtkihgbggndikpaaGreatDoorSplit
import Derived.Test.YtkihgbggndikpaaGreatDoorShelf
import Derived.Lib.LaidU8T
namespace Go.Proofs.YtkihgbggndikpaaGreatDoor
open Go Go.RowKit Go.Shelf Go.Proofs
attribute [local go_sem] Oper.semAt_some

def TabsOk (w : World) : Prop := Lib.Utf8Tabs 1 2 w
theorem TabsOk.below {w w' : World} {n : Nat} (h : TabsOk w) (hn : w.heap.size ≤ n) (hb : Below n w w') : TabsOk w' := Utf8Tabs_below h (hb.mono hn)
def TabBlock (k : Nat) : Prop := k = 1 ∨ k = 2
theorem TabsOk.lt {w : World} (h : TabsOk w) : ∀ k, TabBlock k → k < w.heap.size := by
  rintro k (rfl | rfl)
  · exact World.block_lt_of_cell? w (a := ⟨1, 0, none⟩) (h.1 0 (by omega))
  · exact World.block_lt_of_cell? w (a := ⟨2, 2 * 0, none⟩) (h.2 0 (by omega)).1
theorem TabsOk.keep {w w' : World} (h : TabsOk w) (hk : ∀ k, TabBlock k → k < w.heap.size → w'.heap[k]? = w.heap[k]?) : TabsOk w' := by
  have h1 := hk _ (.inl rfl) (h.lt _ (.inl rfl))
  have h2 := hk _ (.inr rfl) (h.lt _ (.inr rfl))
  exact ⟨fun c hc => (World.cell?_of_block (a := ⟨1, c, none⟩) h1).trans (h.1 c hc), fun i hi =>
    ⟨(World.cell?_of_block (a := ⟨2, 2 * i, none⟩) h2).trans (h.2 i hi).1, (World.cell?_of_block (a := ⟨2, 2 * i + 1, none⟩) h2).trans (h.2 i hi).2⟩⟩

theorem blank_any (c : Int) (w : World) : Calls Tryz.prog 80 #[.int .i32 c] w fun e w' => e = .returned (.bool (c == 32)) ∧ w = w' := by
  go_enter Tryz.func80, Tryz.ntmps80
  go_wp2_with fail
  go_ret
  exact ⟨rfl, rfl⟩
theorem decode_any (s : ByteArray) (w : World) (h : TabsOk w) :
    Calls Tryz.prog 102 #[.string s] w fun e w' => e = .returned (.tuple #[.int .i32 (Lib.decodeGo s).1, .int .i64 (Lib.decodeGo s).2]) ∧ Below w.heap.size w w' := Tryz.utf8_DecodeRuneInString s w h

def KeepF (bs bf : Nat) (k : Nat) : Prop := k = bs ∨ k = bf ∨ TabBlock k
def NoT (_ : Nat) : Prop := False
theorem abides_below {J : Nat → World → Prop} {B : Nat} (h : AbidesTo NoT B J) {k : Nat} {W W' : World} (hj : J k W) (hb : Below W.heap.size W W') : J k W' := h k W W' none hj ⟨hb.os, hb.tape, hb.output, hb.size, fun i hi _ => hb.block i hi⟩ (fun r e => by cases e)
def fieldsB (s : ByteArray) : List ByteArray := (fieldsL s.data.toList).map mkB
theorem fieldsB_at (s : ByteArray) (k a i : Nat) (h : (fieldsL s.data.toList).drop k = (s.data.toList.drop a).take (i - a) :: fieldsL (s.data.toList.drop (i + 1))) (hi : a ≤ i) :
    (fieldsB s)[k]? = some (s.extract a i) ∧ (fieldsL s.data.toList).drop (k + 1) = fieldsL (s.data.toList.drop (i + 1)) := by
  refine ⟨?_, ?_⟩
  · unfold fieldsB
    rw [List.getElem?_map, ← List.head?_drop, h, extract_piece s a i hi]; rfl
  · rw [← List.drop_drop, h]; rfl

set_option maxRecDepth 100000 in
set_option maxHeartbeats 4000000 in
theorem fields_in (n l bs bf : Nat) (s : ByteArray) (hs : s.size ≤ 1000000) (J Jx : Nat → World → Prop) (W : World)
    (hJ : AbidesTo NoT W.heap.size J)
    (hY : ∀ k x W1, J k W1 → (fieldsB s)[k]? = some x → YieldAt Fence.wide (n - 1) Tryz.prog l #[.string x] W1 fun e W' =>
      (e = .returned (.bool true) ∧ J (k + 1) W' ∧ KeepsB (KeepF bs bf) W1 W') ∨ (e = .returned (.bool false) ∧ Jx (k + 1) W'))
    (b1 : Boxed W bs 9 (.string s)) (b2 : Boxed W bf 104 (.func (.func 80) #[] #[])) (hT : TabsOk W) (h0 : J 0 W) :
    CallsIn Fence.wide n Tryz.prog 105 #[.func (.yield l) #[] #[], .pointer (some ⟨bs, 0, none⟩), .pointer (some ⟨bf, 0, none⟩)] W fun e W' =>
      (∃ v, e = .returned v) ∧ (J (fieldsB s).length W' ∨ ∃ k, k ≤ (fieldsB s).length ∧ Jx k W') := by
  have hl : s.data.toList.length = s.size := Array.length_toList
  have hlen : (fieldsB s).length = (fieldsL s.data.toList).length := by unfold fieldsB; simp
  have ef := enters_of (P := Tryz.prog) Tryz.func80 (by kernel_rfl) rfl
  refine callsIn_of_wp Tryz.func105 rfl trivial ?_ rfl
  simp only [Tryz.ntmps105, List.size_toArray, List.length_cons, List.length_nil, Nat.reduceAdd, Nat.reduceSub, Array.replicate_succ, Array.replicate_zero, List.push_toArray, List.append_toArray, List.nil_append, List.cons_append]
  gi_wp2
  gi_loopw [4, 5] (fun v4 v5 wr => ∃ (k i : Nat) (z : Int), v4 = .int .i64 z ∧ v5 = .int .i64 i ∧ i ≤ s.size ∧ Boxed wr bs 9 (.string s) ∧ Boxed wr bf 104 (.func (.func 80) #[] #[]) ∧ TabsOk wr ∧ W.heap.size ≤ wr.heap.size ∧ J k wr ∧ k ≤ (fieldsB s).length ∧
      ((z = -1 ∧ Hid ((fieldsL s.data.toList).drop k = fieldsL (s.data.toList.drop i))) ∨ ∃ a : Nat, z = a ∧ a < i ∧ Hid ((fieldsL s.data.toList).drop k = fieldsL (s.data.toList.drop a)) ∧ Hid (Clear 32 s.data.toList a i)))
    (fun _ v5 _ => s.size - (intOf v5).toNat)
  case atStart => exact ⟨0, 0, -1, rfl, rfl, Nat.zero_le _, b1, b2, hT, Nat.le_refl _, h0, Nat.zero_le _, .inl ⟨rfl, rfl⟩⟩
  case round =>
    obtain ⟨k, i, z, rfl, rfl, his, a1, a2, hTr, hsz, hj, hkl0, hst⟩ := hrel
    have c1 := a1.cell
    have c2 := a2.cell
    by_cases hlt : i < s.size
    · obtain ⟨R, K, hdec, hK1, hK2, hR, hcase⟩ := dec_step s i hlt
      have hgo : Lib.decodeGo (s.extract i s.size) = (R, K) := by
        unfold Lib.decodeGo
        rw [if_neg (by rw [ByteArray.size_extract]; omega), hdec]
      have HG := Lib.hid hgo; clear hgo hdec
      have g1 : (i : Int) < (s.size : Int) := by omega
      have HD := Lib.hid (decode_any (s.extract i s.size) wr hTr)
      gi_wp2_with fail
      refine wide_call HD.out ?_
      rintro e w2 ⟨rfl, hb2⟩
      rw [HG.out]
      have d1 : Boxed w2 bs 9 (.string s) := (hb2.block bs a1.lt).trans a1
      have d2 : Boxed w2 bf 104 (.func (.func 80) #[] #[]) := (hb2.block bf a2.lt).trans a2
      have hT2 : TabsOk w2 := hTr.below (Nat.le_refl _) hb2
      have hj2 : J k w2 := abides_below hJ hj hb2
      have hsz2 := Nat.le_trans hsz hb2.size
      clear a1 a2 hTr hj HD c1 c2
      have c1 := d1.cell
      have c2 := d2.cell
      obtain ⟨c, hc⟩ : ∃ c : Int, (R : Int) = c := ⟨_, rfl⟩
      rw [hc]
      have HB := Lib.hid (blank_any c w2)
      gi_wp2_with fail
      refine wide_call HB.out ?_
      rintro e w' ⟨rfl, rfl⟩
      rcases hcase with ⟨rfl, rfl, hbl⟩ | ⟨hne, hcl⟩
      · have hc : (c == 32) = true := by rw [← hc]; rfl
        rw [hc]
        clear hc HB
        have HBL := Lib.hid hbl; clear hbl
        rcases hst with ⟨rfl, hd⟩ | ⟨a, rfl, ha, hd, hcl⟩
        · gi_wp2_with fail
          refine ⟨⟨k, i + 1, -1, rfl, by go_num, by omega, d1, d2, hT2, hsz2, hj2, hkl0, .inl ⟨rfl, ?_⟩⟩, ?_⟩
          · have := hd.out
            rw [fields_skip _ _ HBL.out] at this
            exact this
          · simp [intOf]; omega
        · have hft := hd.out
          rw [fields_take _ a i ha hcl.out HBL.out] at hft
          obtain ⟨hx, hd2⟩ := fieldsB_at s k a i hft (by omega)
          obtain ⟨fn, tmps, assign, body, hy, hR⟩ := hY k (s.extract a i) w2 hj2 hx
          have hk1 : k + 1 ≤ (fieldsB s).length := (List.getElem?_eq_some_iff.1 hx).1
          have HX := Lib.hid hx; clear hx
          have HD := Lib.hid hd2; clear hd2 hft
          have e1 : (0 : Int) ≤ (a : Int) := by omega
          have e2 : (a : Int) ≤ (i : Int) := by omega
          have e3 : (i : Int) ≤ (s.size : Int) := by omega
          gi_wp2_with fail
          refine wide_round hR ?_
          rintro e W3 (⟨rfl, hJ3, hk3⟩ | ⟨rfl, hJx3⟩)
          · have x1 : Boxed W3 bs 9 (.string s) := (hk3.same bs (.inl rfl) d1.lt).trans d1
            have x2 : Boxed W3 bf 104 (.func (.func 80) #[] #[]) := (hk3.same bf (.inr (.inl rfl)) d2.lt).trans d2
            gi_wp2_with fail
            refine ⟨⟨k + 1, i + 1, -1, rfl, by go_num, by omega, x1, x2, hT2.keep fun q hq hl => hk3.same q (.inr (.inr hq)) hl, Nat.le_trans hsz2 hk3.size, hJ3, hk1, .inl ⟨rfl, HD.out⟩⟩, ?_⟩
            simp [intOf]; omega
          · gi_wp2_with fail
            refine bodyPost_ret (results_none rfl _ _ _) rfl ?_
            exact ⟨⟨_, rfl⟩, .inr ⟨k + 1, hk1, hJx3⟩⟩
      · have hc : (c == 32) = false := by rw [← hc, beq_eq_false_iff_ne]; omega
        rw [hc]
        clear hc HB
        have HCL := Lib.hid hcl; clear hcl
        rcases hst with ⟨rfl, hd⟩ | ⟨a, rfl, ha, hd, hcl⟩
        · gi_wp2_with fail
          refine ⟨⟨k, i + K, i, rfl, by go_num, by omega, d1, d2, hT2, hsz2, hj2, hkl0, .inr ⟨i, rfl, by omega, hd, HCL.out⟩⟩, ?_⟩
          simp [intOf]; omega
        · have e1 : (0 : Int) ≤ (a : Int) := by omega
          gi_wp2_with fail
          refine ⟨⟨k, i + K, a, rfl, by go_num, by omega, d1, d2, hT2, hsz2, hj2, hkl0, .inr ⟨a, rfl, by omega, hd, clear_more 32 _ a i _ hcl.out HCL.out⟩⟩, ?_⟩
          simp [intOf]; omega
    · obtain rfl : i = s.size := by omega
      rcases hst with ⟨rfl, hd⟩ | ⟨a, rfl, ha, hd, hcl⟩
      · have hd' := hd.out
        rw [List.drop_eq_nil_of_le (by omega : s.data.toList.length ≤ s.size), fieldsL_nil] at hd'
        have hkl : (fieldsB s).length ≤ k := by rw [hlen]; exact List.drop_eq_nil_iff.1 hd'
        obtain rfl : k = (fieldsB s).length := by omega
        clear hd'
        gi_wp2_with fail
        go_end0
        exact ⟨⟨_, rfl⟩, .inl hj⟩
      · have hd' := hd.out
        rw [fields_end _ a s.size (by omega) (by omega) hcl.out] at hd'
        have hx : (fieldsB s)[k]? = some (s.extract a s.size) := by
          unfold fieldsB
          rw [List.getElem?_map, ← List.head?_drop, hd', extract_piece s a s.size (by omega), List.take_of_length_le (by rw [List.length_drop]; omega)]; rfl
        have hlk : (fieldsB s).length = k + 1 := by
          have h1 := congrArg List.length hd'
          rw [List.length_drop] at h1
          rw [hlen]; simp at h1; omega
        obtain ⟨fn, tmps, assign, body, hy, hR⟩ := hY k (s.extract a s.size) wr hj hx
        have HX := Lib.hid hx; clear hx hd'
        have HL := Lib.hid hlk; clear hlk
        have e1 : (0 : Int) ≤ (a : Int) := by omega
        have e2 : (a : Int) ≤ (s.size : Int) := by omega
        gi_wp2_with fail
        refine wide_round hR ?_
        rintro e W3 (⟨rfl, hJ3, hk3⟩ | ⟨rfl, hJx3⟩)
        · gi_wp2_with fail
          go_end0
          exact ⟨⟨_, rfl⟩, .inl (HL.out ▸ hJ3)⟩
        · gi_wp2_with fail
          go_end0
          exact ⟨⟨_, rfl⟩, .inr ⟨k + 1, by rw [HL.out]; exact Nat.le_refl _, hJx3⟩⟩

/-- The iterator's contract. -/
theorem fields_list (n bs bf : Nat) (s : ByteArray) (hs : s.size ≤ 1000000) (w : World) (b1 : Boxed w bs 9 (.string s)) (b2 : Boxed w bf 104 (.func (.func 80) #[] #[])) (hT : TabsOk w) :
    SeqList Fence.wide n Tryz.prog 105 #[.pointer (some ⟨bs, 0, none⟩), .pointer (some ⟨bf, 0, none⟩)] (fun x : ByteArray => #[Value.string x]) (KeepsB (KeepF bs bf)) NoT (fieldsB s) w :=
  fun l J Jx W hW hJ _ hY h0 => fields_in n l bs bf s hs J Jx W hJ hY ((hW.block bs b1.lt).trans b1) ((hW.block bf b2.lt).trans b2) (hT.below (Nat.le_refl _) hW) h0

set_option maxHeartbeats 1000000 in
theorem fieldsSeq_any (s : ByteArray) (w : World) :
    Calls Tryz.prog 79 #[.string s, .func (.func 80) #[] #[]] w fun e w' =>
      e = .returned (.func (.func 105) #[] #[.pointer (some ⟨w.heap.size, 0, none⟩), .pointer (some ⟨w.heap.size + 1, 0, none⟩)]) ∧
      w' = (w.alloc (.cells #[.string s] 9)).alloc (.cells #[.func (.func 80) #[] #[]] 104) := by
  go_enter Tryz.func79, Tryz.ntmps79
  go_wp2
  go_ret
  exact ⟨rfl, rfl⟩
end Go.Proofs.YtkihgbggndikpaaGreatDoor
