/-
  Rows of one, or two, pieces of bytes that a law makes; what Sum answers of them.
-/
import Derived.Test.YtopehblbkffncaaCLaw
namespace Go.Proofs.Ytopehblbkffncaa
open Go Go.RowKit Go.Shelf Go.Proofs

/-- Bytes that were handed in. -/
structure BOk (w : World) (x : BX) : Prop where
  bytes : BytesAt w x.A x.b
  cap : x.b.length ≤ x.c
  capm : x.c ≤ maxLen
  reach : x.b.length ≤ reachBytes
theorem BOk.below {w w' : World} {x : BX} (h : BOk w x) (hb : Below w.heap.size w w') : BOk w' x := ⟨h.bytes.below hb, h.cap, h.capm, h.reach⟩
theorem sum1_at (hS : SumOk) {W : World} {x : BX} (hx : BOk W x) :
    Calls Try.prog 12 #[.slice (some ⟨W.heap.size, 0, none⟩) 1 1] (W.alloc (.cells #[.slice x.A x.b.length x.c] 24)) fun e w' => e = .returned (.int .u32 (moreN 0 x.b : Int)) ∧ Below W.heap.size W w' := by
  have hb : Below W.heap.size W (W.alloc (.cells #[.slice x.A x.b.length x.c] 24)) := (Below.refl _ _).alloc (Nat.le_refl _) _
  have hr : BRowAt (W.alloc (.cells #[.slice x.A x.b.length x.c] 24)) (some ⟨W.heap.size, 0, none⟩) 1 [x] := brow_new (t := 24) (xs := [.slice x.A x.b.length x.c]) [x] (heap_alloc_new W _) rfl
    (fun y hy => by obtain rfl := List.mem_singleton.1 hy; exact hx.bytes.below hb) (fun y hy => by obtain rfl := List.mem_singleton.1 hy; exact ⟨hx.cap, hx.capm, hx.reach⟩) (by decide : (1 : Nat) ≤ maxLen)
  refine (hS [x] _ 1 _ hr).mono ?_
  rintro e w' ⟨rfl, hq⟩
  exact ⟨rfl, hb.trans (hq.mono hb.size)⟩
theorem sum2_at (hS : SumOk) {W : World} {x y : BX} (hx : BOk W x) (hy : BOk W y) :
    Calls Try.prog 12 #[.slice (some ⟨W.heap.size, 0, none⟩) 2 2] (W.alloc (.cells #[.slice x.A x.b.length x.c, .slice y.A y.b.length y.c] 24)) fun e w' => e = .returned (.int .u32 (moreN (moreN 0 x.b) y.b : Int)) ∧ Below W.heap.size W w' := by
  have hb : Below W.heap.size W (W.alloc (.cells #[.slice x.A x.b.length x.c, .slice y.A y.b.length y.c] 24)) := (Below.refl _ _).alloc (Nat.le_refl _) _
  have hr : BRowAt (W.alloc (.cells #[.slice x.A x.b.length x.c, .slice y.A y.b.length y.c] 24)) (some ⟨W.heap.size, 0, none⟩) 2 [x, y] := brow_new (t := 24) (xs := [.slice x.A x.b.length x.c, .slice y.A y.b.length y.c]) [x, y] (heap_alloc_new W _) rfl
    (fun z hz => by
      simp only [List.mem_cons, List.mem_nil_iff, or_false] at hz
      rcases hz with rfl | rfl
      · exact hx.bytes.below hb
      · exact hy.bytes.below hb) (fun z hz => by
      simp only [List.mem_cons, List.mem_nil_iff, or_false] at hz
      rcases hz with rfl | rfl
      · exact ⟨hx.cap, hx.capm, hx.reach⟩
      · exact ⟨hy.cap, hy.capm, hy.reach⟩) (by decide : (2 : Nat) ≤ maxLen)
  refine (hS [x, y] _ 2 _ hr).mono ?_
  rintro e w' ⟨rfl, hq⟩
  exact ⟨rfl, hb.trans (hq.mono hb.size)⟩
end Go.Proofs.Ytopehblbkffncaa
