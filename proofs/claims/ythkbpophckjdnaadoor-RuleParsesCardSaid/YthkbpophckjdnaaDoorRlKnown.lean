/-
  rule.Parse of what is too long; the contracts of quilterlaw11.known, quilterref11.Long, Same.
-/
import Derived.Test.YthkbpophckjdnaaDoorRlParse
import Derived.BigQuiet
namespace Go.Proofs.YthkbpophckjdnaaDoor
open Go Go.RowKit Go.Shelf Go.Proofs
attribute [local go_sem] Oper.semAt_some

set_option maxRecDepth 100000 in
set_option maxHeartbeats 4000000 in
theorem rparse_long (s : ByteArray) (w : World) (hs : s.size ≤ maxLen) (hl : 16384 < s.size) :
    Calls Tryd.prog 12 #[.string s] w (RlPost (parseU s.data.toList) w) := by
  unfold maxLen at hs
  have hs1 : (16384 : Int) < (s.size : Int) := by omega
  have hpv : parseU s.data.toList = (3, []) := by
    unfold parseU
    rw [if_pos (by rw [rl_size]; exact hl)]
  have HPV := Lib.hid hpv
  clear hpv hl
  refine (callsIn_wide (n := 777)).1 ?_
  generalize 777 = n
  refine callsIn_of_wp_marks Tryd.func12 rfl trivial ?_ rfl
  simp only [Tryd.ntmps12, List.size_toArray, List.length_cons, List.length_nil, Nat.reduceAdd, Nat.reduceSub, Array.replicate_succ, Array.replicate_zero, List.push_toArray, List.append_toArray, List.nil_append, List.cons_append]
  gi_wp2_with fail
  refine wpIn_scope_wide ?_
  gi_wp2_with fail
  rw [Exit.noGoto_ret]
  refine ⟨.tuple #[.slice none 0 0, .int .i64 3], ?_, ?_⟩
  · simp [results, Tryd.f12, go_sem]
  · rw [HPV.out]
    exact ⟨none, 0, [], rfl, RulesAt.nil _ _ _ (Nat.zero_le _), rfl, (((Below.refl _ w).alloc (Nat.le_refl _) _).alloc (by simp) _)⟩
theorem rparse_all (s : ByteArray) (w : World) (hs : s.size ≤ maxLen) (hm : MaxOk w) : Calls Tryd.prog 12 #[.string s] w (RlPost (parseU s.data.toList) w) := by
  by_cases h : s.size ≤ 16384
  · exact rparse_any s w h hm
  · exact rparse_long s w hs (by omega)
def RlB (b : Bool) (w : World) (e : Ending) (w' : World) : Prop := e = .returned (.bool b) ∧ Below w.heap.size w w'
def knownX : RX := ⟨1, ⟨#[42, 42]⟩, ⟨#[97]⟩, ⟨#[98]⟩⟩
def knownT : ByteArray := ⟨#[114, 101, 112, 108, 97, 99, 101, 32, 42, 42, 32, 97, 32, 98, 10]⟩
def knownBad : ByteArray := ⟨#[114, 101, 112, 108, 97, 99, 101, 32, 42, 42, 32, 97, 45, 98, 32, 99]⟩
theorem known_print : printU (rusX [knownX]) = (0, knownT.data.toList) := by kernel_rfl
theorem known_parse : parseU knownT.data.toList = (0, rusX [knownX]) := by kernel_rfl
theorem known_bad : parseU knownBad.data.toList = (11, []) := by kernel_rfl

set_option maxRecDepth 100000 in
set_option maxHeartbeats 4000000 in
theorem rknown_any (w : World) (hm : MaxOk w) : Calls Tryd.prog 11 #[] w (RlB true w) := by
  obtain ⟨W1, hW1⟩ : ∃ W1, w.alloc (.cells #[.int .i64 1, .string ⟨#[42, 42]⟩, .string ⟨#[97]⟩, .string ⟨#[98]⟩] 35) = W1 := ⟨_, rfl⟩
  have hb1 : Below w.heap.size w W1 := by rw [← hW1]; exact (Below.refl _ _).alloc (Nat.le_refl _) _
  have n1 : W1.heap[w.heap.size]? = some (.cells #[.int .i64 1, .string ⟨#[42, 42]⟩, .string ⟨#[97]⟩, .string ⟨#[98]⟩] 35 (0, 0)) := by rw [← hW1]; exact heap_alloc_new _ _
  have hra : RulesAt W1 (some ⟨w.heap.size, 0, none⟩) 1 [knownX] := ⟨Nat.le_refl _, by unfold maxLen; omega, fun _ => ⟨_, 0, rfl, fun i x hx => by
    match i, hx with
    | 0, hx =>
      cases hx
      exact ⟨cell_of_row _ _ 0 _ _ _ n1, cell_of_row _ _ 1 _ _ _ n1, cell_of_row _ _ 2 _ _ _ n1, cell_of_row _ _ 3 _ _ _ n1⟩
    | i + 1, hx => simp at hx⟩⟩
  have hp := print_any (some ⟨w.heap.size, 0, none⟩) 1 [knownX] W1 hra (fun x hx => by
    rw [List.mem_singleton] at hx; subst hx
    exact ⟨by decide, by decide, by decide⟩) (hm.below hb1)
  rw [known_print] at hp
  simp only [data_mkB, List.length_cons, List.length_nil, Nat.zero_add] at hp
  have HP := Lib.hid hp
  have HB1 := Lib.hid hb1
  have HW1 := Lib.hid hW1
  have HMX := Lib.hid (fun (W : World) (h : Below w.heap.size w W) => hm.below h)
  clear hp hra n1 hb1 hW1 hm
  go_enter Tryd.func11, Tryd.ntmps11
  go_wp2_with fail
  rw [HW1.out]
  refine HP.out.mono ?_
  rintro e w2 ⟨rfl, hb2⟩
  have hb02 := HB1.out.trans (hb2.mono HB1.out.size)
  have HQ := Lib.hid (rparse_any knownT w2 (by decide) (HMX.out w2 hb02))
  rw [known_parse] at HQ
  have HB02 := Lib.hid hb02
  clear hb2 hb02
  unfold knownT at HQ ⊢
  go_wp2_with fail
  refine HQ.out.mono ?_
  rintro e w3 ⟨A3, c3, l3, rfl, hr3, hl3, hb3⟩
  obtain rfl : l3 = [knownX] := rusX_inj hl3
  have hb03 := HB02.out.trans (hb3.mono HB02.out.size)
  have HQ2 := Lib.hid (rparse_any knownBad w3 (by decide) (HMX.out w3 hb03))
  rw [known_bad] at HQ2
  have HB03 := Lib.hid hb03
  have HR3 := Lib.hid hr3
  clear hb3 hb03 hl3 hr3
  unfold knownBad at HQ2
  go_wp2_with fail
  refine HQ2.out.mono ?_
  rintro e w4 ⟨A4, c4, l4, rfl, hr4, hl4, hb4⟩
  have hl4 : l4.length = 0 := by rw [← rusX_length, hl4]; rfl
  have hr := HR3.out.below hb4
  have hcap : (0 : Int) < (c3 : Int) := by have := HR3.out.cap; simp only [List.length_cons, List.length_nil] at this; omega
  obtain ⟨g, o, rfl, hrow⟩ := hr.row (by show (0 : Nat) < 1; omega)
  obtain ⟨_, _, _, c3'⟩ := hrow 0 knownX rfl
  unfold knownX at c3'
  simp only [Nat.zero_mul, Nat.add_zero] at c3'
  have HB4 := Lib.hid (HB03.out.trans (hb4.mono HB03.out.size))
  clear hb4 hr hrow hr4
  go_wp2_with fail
  go_ret
  exact ⟨rfl, HB4.out⟩
end Go.Proofs.YthkbpophckjdnaaDoor
