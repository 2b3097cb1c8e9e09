/-
  What the laws of layer 4 ask of the program's More, Sum, Step; known.
-/
import Derived.Test.YtopehblbkffncaaCRef
import Derived.Lib.SlBytesConst
namespace Go.Proofs.Ytopehblbkffncaa
open Go Go.RowKit Go.Shelf Go.Proofs

/-- The program's More, Sum, Step answer what the chapter says. -/
def MoreOk : Prop := ∀ (n : Nat), n < 2 ^ 32 → ∀ (b : Bs) (A : Option Addr) (c : Nat) (w : World), BytesAt w A b → b.length ≤ 9223372036854775000 →
  Calls Try.prog 10 #[.int .u32 (n : Int), .slice A b.length c] w fun e w' => e = .returned (.int .u32 (moreN n b : Int)) ∧ Below w.heap.size w w'
def SumOk : Prop := ∀ (l : List BX) (A : Option Addr) (c : Nat) (w : World), BRowAt w A c l →
  Calls Try.prog 12 #[.slice A l.length c] w fun e w' => e = .returned (.int .u32 (sumN (l.map BX.b) : Int)) ∧ Below w.heap.size w w'
def StepOk : Prop := ∀ (n : Nat), n < 2 ^ 32 → ∀ (w : World),
  Calls Try.prog 14 #[.int .u32 (n : Int)] w fun e w' => e = .returned (.int .u32 (halfN n : Int)) ∧ Below w.heap.size w w'

/-- A row of rows of bytes that lies in a new block. -/
theorem brow_new {w : World} {g : Nat} {xs : List Value} {t : TypeId} {fr : Nat × Nat} (l : List BX) (hg : w.heap[g]? = some (.cells xs.toArray t fr)) (hx : xs = l.map BX.v) (hb : ∀ x ∈ l, BytesAt w x.A x.b) (hc : ∀ x ∈ l, x.b.length ≤ x.c ∧ x.c ≤ maxLen ∧ x.b.length ≤ reachBytes) (hl : l.length ≤ maxLen) : BRowAt w (some ⟨g, 0, none⟩) l.length l := by
  refine ⟨Nat.le_refl _, hl, fun _ => ⟨g, 0, rfl, fun i x hi => ?_⟩, hb, hc⟩
  subst hx
  have e : (l.map BX.v).toArray[0 + i]? = some x.v := by rw [Nat.zero_add, List.getElem?_toArray, List.getElem?_map, hi]; rfl
  simp only [World.cell?, hg, Option.isSome_none]
  exact e

theorem known_sum : sumN [[49, 50, 51, 52], [53, 54, 55, 56, 57]] = 3421780262 := by kernel_rfl
theorem known_step : halfN 1 = 3988292384 := by kernel_rfl

set_option maxHeartbeats 2000000 in
theorem ckown_any (hS : SumOk) (hT : StepOk) (w : World) : Calls Try.prog 9 #[] w fun e w' => e = .returned (.bool true) ∧ Below w.heap.size w w' := by
  have kc := fun (w : World) (C : Array Value) (n c : Nat) => Lib.run_convert_bytes_const (P := Try.prog) w 24 5 C n c Try.underlying24 Try.underlying5
  have k1 := kc w #[.int .u8 49, .int .u8 50, .int .u8 51, .int .u8 52] 4 4
  have k2 := kc (w.alloc (.cells #[.int .u8 49, .int .u8 50, .int .u8 51, .int .u8 52] 5 (4, 5))) #[.int .u8 53, .int .u8 54, .int .u8 55, .int .u8 56, .int .u8 57] 5 5
  have hs1 : (w.alloc (.cells #[.int .u8 49, .int .u8 50, .int .u8 51, .int .u8 52] 5 (4, 5))).heap.size = w.heap.size + 1 := by simp
  rw [hs1] at k2
  obtain ⟨V, hV⟩ : ∃ V, w.alloc (.cells #[.int .u8 49, .int .u8 50, .int .u8 51, .int .u8 52] 5 (4, 5)) = V := ⟨_, rfl⟩
  obtain ⟨U, hU⟩ : ∃ U, V.alloc (.cells #[.int .u8 53, .int .u8 54, .int .u8 55, .int .u8 56, .int .u8 57] 5 (5, 6)) = U := ⟨_, rfl⟩
  obtain ⟨W, hW⟩ : ∃ W, U.alloc (.cells #[.slice (some ⟨w.heap.size, 0, none⟩) 4 4, .slice (some ⟨w.heap.size + 1, 0, none⟩) 5 5] 24) = W := ⟨_, rfl⟩
  have bV := heap_alloc_new w (.cells #[.int .u8 49, .int .u8 50, .int .u8 51, .int .u8 52] 5 (4, 5))
  rw [hV] at bV hs1
  have bU := heap_alloc_new V (.cells #[.int .u8 53, .int .u8 54, .int .u8 55, .int .u8 56, .int .u8 57] 5 (5, 6))
  rw [hU, hs1] at bU
  have hs2 : U.heap.size = w.heap.size + 2 := by rw [← hU]; simp [hs1]
  have bW := heap_alloc_new U (.cells #[.slice (some ⟨w.heap.size, 0, none⟩) 4 4, .slice (some ⟨w.heap.size + 1, 0, none⟩) 5 5] 24)
  rw [hW, hs2] at bW
  have b1 : Below w.heap.size w V := by rw [← hV]; exact (Below.refl _ _).alloc (Nat.le_refl _) _
  have b2 : Below V.heap.size V U := by rw [← hU]; exact (Below.refl _ _).alloc (Nat.le_refl _) _
  have b3 : Below U.heap.size U W := by rw [← hW]; exact (Below.refl _ _).alloc (Nat.le_refl _) _
  have bb : Below w.heap.size w W := (b1.trans (b2.mono b1.size)).trans (b3.mono (b1.trans (b2.mono b1.size)).size)
  have q1 : BytesAt V (some ⟨w.heap.size, 0, none⟩) [49, 50, 51, 52] := fun _ => ⟨_, 0, rfl, fun i hi => by
    have hi : i < 4 := hi
    simp only [World.cell?, bV, Option.isSome_none, Nat.zero_add]
    match i, hi with
    | 0, _ => rfl
    | 1, _ => rfl
    | 2, _ => rfl
    | 3, _ => rfl⟩
  have q2 : BytesAt U (some ⟨w.heap.size + 1, 0, none⟩) [53, 54, 55, 56, 57] := fun _ => ⟨_, 0, rfl, fun i hi => by
    have hi : i < 5 := hi
    simp only [World.cell?, bU, Option.isSome_none, Nat.zero_add]
    match i, hi with
    | 0, _ => rfl
    | 1, _ => rfl
    | 2, _ => rfl
    | 3, _ => rfl
    | 4, _ => rfl⟩
  have hrow : BRowAt W (some ⟨w.heap.size + 2, 0, none⟩) 2 [⟨some ⟨w.heap.size, 0, none⟩, 4, [49, 50, 51, 52]⟩, ⟨some ⟨w.heap.size + 1, 0, none⟩, 5, [53, 54, 55, 56, 57]⟩] := brow_new (t := 24) (xs := [.slice (some ⟨w.heap.size, 0, none⟩) 4 4, .slice (some ⟨w.heap.size + 1, 0, none⟩) 5 5]) [⟨some ⟨w.heap.size, 0, none⟩, 4, [49, 50, 51, 52]⟩, ⟨some ⟨w.heap.size + 1, 0, none⟩, 5, [53, 54, 55, 56, 57]⟩] bW rfl (fun x hx => by
      simp only [List.mem_cons, List.mem_nil_iff, or_false] at hx
      rcases hx with rfl | rfl
      · exact (q1.below b2).below b3
      · exact q2.below b3) (fun x hx => by
      simp only [List.mem_cons, List.mem_nil_iff, or_false] at hx
      rcases hx with rfl | rfl
      · exact ⟨Nat.le_refl 4, (by decide : (4 : Nat) ≤ maxLen), (by decide : (4 : Nat) ≤ reachBytes)⟩
      · exact ⟨Nat.le_refl 5, (by decide : (5 : Nat) ≤ maxLen), (by decide : (5 : Nat) ≤ reachBytes)⟩) (by decide : (2 : Nat) ≤ maxLen)
  have HC := Lib.hid (hS _ _ _ W hrow)
  have HT := Lib.hid (hT 1 (by decide))
  have HB := Lib.hid bb
  have HV := Lib.hid hV
  have HU := Lib.hid hU
  have HW := Lib.hid hW
  have e1 : ((sumN [[49, 50, 51, 52], [53, 54, 55, 56, 57]] : Nat) : Int) = 3421780262 := by rw [known_sum]; rfl
  have e2 : ((halfN 1 : Nat) : Int) = 3988292384 := by rw [known_step]; rfl
  have E1 := Lib.hid e1
  have E2 := Lib.hid e2
  clear hS hT q1 q2 hrow b1 b2 b3 bb bV bU bW kc hV hU hW hs1 hs2 e1 e2
  go_enter Try.func9, Try.ntmps9
  go_wp2_with fail
  rw [HV.out, HU.out, HW.out]
  refine HC.out.mono ?_
  rintro e w1 ⟨rfl, hq1⟩
  have hb1 := HB.out.trans (hq1.mono HB.out.size)
  have HT := Lib.hid (HT.out w1)
  show _
  simp only [List.map_cons, List.map_nil, E1.out]
  go_wp2_with fail
  refine HT.out.mono ?_
  rw [E2.out]
  rintro e w2 ⟨rfl, hq2⟩
  have hb2 := hb1.trans (hq2.mono hb1.size)
  go_wp2_with fail
  go_ret
  exact ⟨rfl, hb2⟩
end Go.Proofs.Ytopehblbkffncaa
