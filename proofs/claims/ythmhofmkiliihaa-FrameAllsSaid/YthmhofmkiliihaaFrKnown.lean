/-
  What the chapter's example fixes: known.
-/
import Derived.Test.YthmhofmkiliihaaFrRef
import Derived.Lib.SlBytesConst
namespace Go.Proofs.Ythmhofmkiliihaa
open Go Go.RowKit Go.Shelf Go.Proofs

/-- append, where the length is spelt otherwise. -/
theorem wpList_appN {base : Nat} {w : World} {v : Value} {l : Bs} {A : Option Addr} {c n : Nat} {b : Bs} {ops : Array Oper} {rest : List Oper} {o : Oper} {a : Act} {Q : Exit → Act → World → Prop} (hgd : o.guard = none) (s x : Operand)
    (ho : o.op = .call { callee := .builtin .append, args := #[s, x], argTypes := #[22, 22] }) (hs : a.eval s = v) (hown : OB base w v l)
    (hx : a.eval x = .slice A n c) (hn : b.length = n) (hb : SlAt w A c b) (hlen : l.length + b.length ≤ 1000000) (hbase : base ≤ w.heap.size)
    (h : ∀ v' w', OB base w' v' (l ++ b) → w.grownBy w' v.ownBlock → wpList Try.prog ops Q rest (a.put o.dst v') w') : wpList Try.prog ops Q (o :: rest) a w := by
  subst hn
  exact wpList_appB hgd s x ho hs hown hx hb hlen hbase h

theorem known_len : (joinF [[97, 98], [99, 100]]).length = 20 := by rw [join_cons, join_cons, join_nil]; simp [encF_length]
theorem known_cut : (joinF [[97, 98], [99, 100]]).take 15 = joinF [[97, 98]] ++ (encF [99, 100]).take 5 := by
  rw [join_cons, join_cons, join_cons, join_nil, List.append_nil, List.append_nil, List.take_append, encF_length]
  rw [List.take_of_length_le (by rw [encF_length]; decide)]
  rfl
theorem known_all : allB ((joinF [[97, 98], [99, 100]]).take 15) = [[97, 98]] := by
  rw [known_cut]
  exact all_join _ _ (fun x hx => by rw [List.mem_singleton] at hx; subst hx; decide) (next_short (by rw [List.length_take]; omega))
theorem known_lenF : lenF [[97, 98]] = 10 := by rw [lenF_cons]; unfold lenF; rw [join_nil]; rfl

set_option maxHeartbeats 4000000 in
theorem known_any (w : World) : Calls Try.prog 8 #[] w fun e w' => e = .returned (.bool true) ∧ Below w.heap.size w w' := by
  have kc := fun (w : World) (C : Array Value) (n c : Nat) => Lib.run_convert_bytes_const (P := Try.prog) w 22 5 C n c Try.underlying22 Try.underlying5
  have k1 := kc w #[.int .u8 97, .int .u8 98] 2 2
  have k2 := kc (w.alloc (.cells #[.int .u8 97, .int .u8 98] 5 (2, 3))) #[.int .u8 99, .int .u8 100] 2 2
  have hs1 : (w.alloc (.cells #[.int .u8 97, .int .u8 98] 5 (2, 3))).heap.size = w.heap.size + 1 := by simp
  rw [hs1] at k2
  obtain ⟨V, hV⟩ : ∃ V, w.alloc (.cells #[.int .u8 97, .int .u8 98] 5 (2, 3)) = V := ⟨_, rfl⟩
  obtain ⟨U, hU⟩ : ∃ U, V.alloc (.cells #[.int .u8 99, .int .u8 100] 5 (2, 3)) = U := ⟨_, rfl⟩
  obtain ⟨W, hW⟩ : ∃ W, U.alloc (.cells #[.slice (some ⟨w.heap.size, 0, none⟩) 2 2, .slice (some ⟨w.heap.size + 1, 0, none⟩) 2 2] 22) = W := ⟨_, rfl⟩
  have bV := heap_alloc_new w (.cells #[.int .u8 97, .int .u8 98] 5 (2, 3))
  rw [hV] at bV hs1
  have bU := heap_alloc_new V (.cells #[.int .u8 99, .int .u8 100] 5 (2, 3))
  rw [hU, hs1] at bU
  have hs2 : U.heap.size = w.heap.size + 2 := by rw [← hU]; simp [hs1]
  have b1 : Below w.heap.size w V := by rw [← hV]; exact (Below.refl _ _).alloc (Nat.le_refl _) _
  have b2 : Below V.heap.size V U := by rw [← hU]; exact (Below.refl _ _).alloc (Nat.le_refl _) _
  have b3 : Below U.heap.size U W := by rw [← hW]; exact (Below.refl _ _).alloc (Nat.le_refl _) _
  have bb : Below w.heap.size w W := (b1.trans (b2.mono b1.size)).trans (b3.mono (b1.trans (b2.mono b1.size)).size)
  have q1 : SlAt V (some ⟨w.heap.size, 0, none⟩) 2 [97, 98] := ⟨BytesAt.of_cells fun i x hx => by
    have hi : i < 2 := (List.getElem?_eq_some_iff.1 hx).1
    simp only [World.cell?, bV, Option.isSome_none, Nat.zero_add]
    match i, hi, hx with
    | 0, _, hx => cases hx; rfl
    | 1, _, hx => cases hx; rfl, Nat.le_refl 2, by unfold maxLen; omega, fun e => by cases e⟩
  have q2 : SlAt U (some ⟨w.heap.size + 1, 0, none⟩) 2 [99, 100] := ⟨BytesAt.of_cells fun i x hx => by
    have hi : i < 2 := (List.getElem?_eq_some_iff.1 hx).1
    simp only [World.cell?, bU, Option.isSome_none, Nat.zero_add]
    match i, hi, hx with
    | 0, _, hx => cases hx; rfl
    | 1, _, hx => cases hx; rfl, Nat.le_refl 2, by unfold maxLen; omega, fun e => by cases e⟩
  have hrow : BRowAt W (some ⟨w.heap.size + 2, 0, none⟩) 2 [⟨some ⟨w.heap.size, 0, none⟩, 2, [97, 98]⟩, ⟨some ⟨w.heap.size + 1, 0, none⟩, 2, [99, 100]⟩] := by
    have := brow2 (t := 22) (x := ⟨some ⟨w.heap.size, 0, none⟩, 2, [97, 98]⟩) (y := ⟨some ⟨w.heap.size + 1, 0, none⟩, 2, [99, 100]⟩) (q1.below b2) q2 (by decide : (2 : Nat) ≤ reachBytes) (by decide : (2 : Nat) ≤ reachBytes) hW
    rw [hs2] at this
    exact this
  have HJ := Lib.hid (join_any _ _ _ _ hrow (fun x hx => by
    simp only [List.mem_cons, List.mem_nil_iff, or_false] at hx
    rcases hx with rfl | rfl <;> (intro e; cases e)) (fun x hx => by
    simp only [List.mem_cons, List.mem_nil_iff, or_false] at hx
    rcases hx with rfl | rfl <;> (show (2 : Nat) ≤ 65536; omega)) (by show lenF [[97, 98], [99, 100]] ≤ _; unfold lenF; rw [known_len]; omega))
  have HB := Lib.hid bb
  have HV := Lib.hid hV
  have HU := Lib.hid hU
  have HW := Lib.hid hW
  clear q1 q2 hrow b1 b2 b3 bb bV bU kc hV hU hW hs1 hs2
  go_enter Try.func8, Try.ntmps8
  go_wp2_with fail
  rw [HV.out, HU.out, HW.out]
  refine HJ.out.mono ?_
  rintro e w1 ⟨v1, rfl, ho, hb1⟩
  clear HJ
  obtain ⟨A1, c1, rfl, hs1, _⟩ := ho.sl
  have e20 : ((joinF (([⟨some ⟨w.heap.size, 0, none⟩, 2, [97, 98]⟩, ⟨some ⟨w.heap.size + 1, 0, none⟩, 2, [99, 100]⟩] : List BX).map BX.b)).length) = 20 := known_len
  have eJ : joinF (([⟨some ⟨w.heap.size, 0, none⟩, 2, [97, 98]⟩, ⟨some ⟨w.heap.size + 1, 0, none⟩, 2, [99, 100]⟩] : List BX).map BX.b) = joinF [[97, 98], [99, 100]] := rfl
  rw [e20]
  rw [eJ] at hs1
  have hcap := hs1.cap
  rw [known_len] at hcap
  have hcc := hs1.c63
  have q15 : (15 : Int) ≤ (c1 : Int) := by omega
  have t15 : ((joinF [[97, 98], [99, 100]]).take 15).length = 15 := by rw [List.length_take, known_len]; rfl
  have HA := Lib.hid (all_any A1 c1 ((joinF [[97, 98], [99, 100]]).take 15) w1 ⟨hs1.bytes.front 15, by omega, hs1.capm, hs1.nil⟩ (by omega))
  rw [t15] at HA
  obtain ⟨g, o, rfl⟩ := hs1.addr (by rw [known_len]; omega)
  have hb2 := HB.out.trans (hb1.mono HB.out.size)
  have HB2 := Lib.hid hb2
  clear hb1 hb2 ho hs1 eJ e20 hcap t15 HB
  go_wp2_with fail
  refine HA.out.mono ?_
  clear HA
  rintro e w2 ⟨v2, rows, rfl, hR, hval, hb3⟩
  rw [known_all] at hval
  rw [known_all, known_lenF]
  obtain ⟨x, rfl, hx⟩ : ∃ x, rows = [x] ∧ x.b = [97, 98] := by
    cases rows with
    | nil => simp at hval
    | cons x r =>
      cases r with
      | nil => simp at hval; exact ⟨x, rfl, hval⟩
      | cons y r => simp at hval
  obtain ⟨A2, c2, rfl, hrow⟩ := hR.slice
  obtain ⟨g2, o2, rfl, hr⟩ := hrow.row (by simp)
  have c3 : w2.cell? ⟨g2, o2, none⟩ = some (.slice x.A x.b.length x.c) := hr 0 x rfl
  have r1 := fr_str w2 x.A x.c x.b (hR.bod x (by simp)).1.sl.bytes
  rw [hx] at c3 r1
  have c3 : w2.cell? ⟨g2, o2, none⟩ = some (.slice x.A 2 x.c) := c3
  have r1 : (convert 22 9 (.slice x.A 2 x.c)).run Try.prog w2 = .ok (.string ⟨#[97, 98]⟩) w2 := r1
  have hb4 := HB2.out.trans (hb3.mono HB2.out.size)
  clear hR hrow hr hval hb3 HB2 k1 k2
  show _
  simp only [List.length_cons, List.length_nil]
  go_wp2_with fail
  go_ret
  exact ⟨rfl, hb4⟩
end Go.Proofs.Ythmhofmkiliihaa
