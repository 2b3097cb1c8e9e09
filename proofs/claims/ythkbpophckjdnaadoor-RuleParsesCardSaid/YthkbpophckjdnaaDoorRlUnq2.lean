/-
  The contract of rule.Unquote.
-/
import Derived.Test.YthkbpophckjdnaaDoorRlUnq
namespace Go.Proofs.YthkbpophckjdnaaDoor
open Go Go.RowKit Go.Shelf Go.Proofs
attribute [local go_sem] Oper.semAt_some

theorem unq_text (s : Bs) (h : (s == [37]) = false) : unquoteL s = if quoteL (decU s) == s then some (decU s) else none := by
  unfold unquoteL
  rw [h, if_neg (by simp)]
def unqV (s : Bs) : Bs × Bool := match unquoteL s with
  | some t => (t, true)
  | none => ([], false)
set_option maxRecDepth 100000 in
set_option maxHeartbeats 2000000 in
theorem unquote_any (s : ByteArray) (w : World) (hs : s.size ≤ 1000000000) :
    Calls Tryd.prog 14 #[.string s] w fun e w' => e = .returned (.tuple #[.string (mkB (unqV s.data.toList).1), .bool (unqV s.data.toList).2]) ∧ Below w.heap.size w w' := by
  have hl := rl_size s
  cases he : s.toList == [37] with
  | true =>
    have hq : unqV s.data.toList = ([], true) := by
      unfold unqV unquoteL
      rw [← ByteArray.toList_eq, he, if_pos rfl]
    rw [hq]
    clear hq hl
    go_enter Tryd.func14, Tryd.ntmps14
    go_wp2_with fail
    go_ret2
    exact ⟨rfl, Below.refl _ _⟩
  | false =>
    have hu := unq_text s.data.toList (by rw [← ByteArray.toList_eq]; exact he)
    have HU := Lib.hid hu
    clear hu
    obtain ⟨B, hB⟩ : ∃ B, w.heap.size = B := ⟨_, rfl⟩
    obtain ⟨W1, hW1⟩ : ∃ W1, w.alloc (.cells #[.pointer none, .slice none 0 0] 67) = W1 := ⟨_, rfl⟩
    have s1 : W1.heap.size = B + 1 := by rw [← hW1, World.size_alloc, hB]
    have n1 : W1.heap[B]? = some (.cells #[.pointer none, .slice none 0 0] 67 (0, 0)) := by
      have := heap_alloc_new w (.cells #[.pointer none, .slice none 0 0] 67)
      rw [hW1, hB] at this; exact this
    have b1 : Below B w W1 := by rw [← hW1]; exact (Below.refl B w).alloc (by omega) _
    have G0 : Hid (BuiltF B B (Lib.byteCells []) W1) := built_new (Nat.le_refl _) n1
    have HB := Lib.hid hB
    have HB1 := Lib.hid b1
    have HW1 := Lib.hid hW1
    have S1 := Lib.hid s1
    clear hW1 s1 n1 b1
    go_enter Tryd.func14, Tryd.ntmps14
    go_wp2_with fail
    rw [HW1.out]
    clear HW1 hB
    go_loopw [5, 6, 7] (fun v5 v6 v7 wr => ∃ (r : ByteArray) (out : Bs), v5 = .string r ∧ Hid (decU s.data.toList = out ++ decU r.data.toList) ∧ out.length + r.size ≤ s.size ∧ Hid (BuiltF B B (Lib.byteCells out) wr) ∧ Below B w wr ∧ B + 1 ≤ wr.heap.size) (fun v5 _ _ _ => match v5 with | .string r => r.size | _ => 0)
    case atStart => exact ⟨s, [], rfl, rfl, by simp, G0.out, HB1.out, by rw [S1.out]; omega⟩
    case round =>
      obtain ⟨r, out, rfl, hd, hz, HBU, hb, hsz⟩ := hrel
      have hrl := rl_size r
      cases hr : r.toList.isEmpty with
      | true =>
        have hr0 : r.data.toList = [] := toList_nil hr
        have hdd : decU s.data.toList = out := by rw [hd.out, hr0]; simp [decU]
        have HBO := HBU.out
        rw [← hdd] at HBO hz
        have HST := Lib.hid (Tryd.Builder_String_any_k B B _ wr HBO (by omega))
        obtain ⟨T, hT⟩ : ∃ T, decU s.data.toList = T := ⟨_, rfl⟩
        rw [hT] at HST hz HU
        have HT := Lib.hid hT
        clear hd hdd HBO hr0 hT
        go_wp2_with fail
        refine HST.out.mono ?_
        rintro e w9 ⟨rfl, _, hb9, _⟩
        have hb9' := hb.trans hb9
        have hsz9 := hb9.size
        have HQ := Lib.hid (quote_any (mkB T) w9 (by rw [mkB_size]; omega))
        rw [mkB_data] at HQ
        clear hb9
        go_wp2_with fail
        refine HQ.out.mono ?_
        rintro e w10 ⟨rfl, hb10⟩
        have hB10 := hb9'.trans (hb10.mono (by omega))
        have hcm : ((mkB (quoteL T)).toList == s.toList) = (quoteL T == s.data.toList) := by rw [ByteArray.toList_eq, ByteArray.toList_eq, mkB_data]
        have hbw : Below w.heap.size w w10 := by rw [HB.out]; exact hB10
        cases hc : quoteL T == s.data.toList with
        | true =>
          rw [hc] at hcm
          have hv : unqV s.data.toList = (T, true) := by unfold unqV; rw [HU.out, hc, if_pos rfl]
          have HV := Lib.hid hv
          clear hv hc
          go_wp2_with fail
          go_ret2
          exact ⟨by rw [HV.out]; rfl, hbw⟩
        | false =>
          rw [hc] at hcm
          have hv : unqV s.data.toList = ([], false) := by unfold unqV; rw [HU.out, hc, if_neg (by simp)]
          have HV := Lib.hid hv
          clear hv hc
          go_wp2_with fail
          go_ret2
          exact ⟨by rw [HV.out]; rfl, hbw⟩
      | false =>
        have hr0 : r.data.toList ≠ [] := by
          have := toList_cons hr
          intro e; rw [e] at this; cases this
        have hpos : 0 < r.size := by rw [← hrl]; exact List.length_pos_iff.2 hr0
        have hsd := stepQ_dec _ hr0
        obtain ⟨hp1, hp2⟩ := stepQ_pos _ hr0
        rw [hrl] at hp2
        have HO := Lib.hid (byteOf_any r wr (by unfold maxLen; omega) hpos)
        obtain ⟨c, n, hcn⟩ : ∃ c n, stepQ r.data.toList = (c, n) := ⟨_, _, rfl⟩
        rw [hcn] at HO hsd hp1 hp2
        simp only at HO hsd hp1 hp2
        have HSD := Lib.hid hsd
        clear hsd hcn hr0
        go_wp2_with fail
        refine HO.out.mono ?_
        rintro e w2 ⟨rfl, hb2⟩
        have hsz2 := hb2.size
        have HBU2 := Lib.hid (built_below HBU.out hb2)
        have HL := Lib.hid (byteCells_len out)
        have HWB := Lib.hid (sb_byte B B _ (c.toNat : Int) w2 HBU2.out (by rw [HL.out]; omega) (by omega))
        go_wp2_with fail
        refine HWB.out.mono ?_
        rintro e w3 ⟨rfl, hg3, hb3⟩
        have n1 : (n : Int) ≤ (r.size : Int) := by omega
        have n0 : (0 : Int) ≤ (n : Int) := by omega
        go_wp2_with fail
        have hsz3 := hb3.size
        refine ⟨⟨r.extract n r.size, out ++ [c], rfl, ?_, ?_, ?_, hb.trans ((hb2.mono (by omega)).trans hb3), by omega⟩, ?_⟩
        · unfold Hid
          rw [hd.out, HSD.out, Lib.extract_to_end]; simp
        · rw [List.length_append, ByteArray.size_extract]; simp; omega
        · unfold Hid
          rw [show Lib.byteCells (out ++ [c]) = Lib.byteCells out ++ [.int .u8 (c.toNat : Int)] from by simp [Lib.byteCells]]
          exact hg3
        · simp only [ByteArray.size_extract]; omega
end Go.Proofs.YthkbpophckjdnaaDoor
