/-
  What every law's row of layer 4 wants: that nothing is looked into, that numbers are naturals, that memory is laid out.
-/
import Derived.Test.YtopehblbkffncaaCProg
import Derived.Test.YtopehblbkffncaaCPieces
import Derived.Test.YtopehblbkffncaaOpenNil
import Derived.Test.YtopehblbkffncaaRows
import Derived.WalkKit
import Derived.ProofKit
import Derived.OpenShut
import Derived.SizedLaws
import Derived.Deep.DeepHandedRow
namespace Go.Proofs.Ytopehblbkffncaa
open Go Go.ChangeShapes Go.WideShapes Go.ChangeAt Go.RowKit Go.Proofs

theorem own : ownKnob Try.prog.godebug = none := by kernel_rfl
theorem laid_out : laidOutB Try.prog = true := by kernel_rfl
theorem nat_u8 {n : Int} (h : (Lit.int .u8 n).wf = true) : ∃ b : UInt8, n = (b.toNat : Int) := by
  obtain ⟨h1, h2⟩ := bounds_u8 h
  refine ⟨UInt8.ofNat n.toNat, ?_⟩
  rw [UInt8.toNat_ofNat']
  omega
theorem nat_u16 {n : Int} (h : (Lit.int .u16 n).wf = true) : ∃ k : Nat, n = (k : Int) ∧ k < 65536 := by
  obtain ⟨h1, h2⟩ := bounds_u16 h
  exact ⟨n.toNat, by omega, by omega⟩
theorem nat_u32 {n : Int} (h : (Lit.int .u32 n).wf = true) : ∃ k : Nat, n = (k : Int) ∧ k < 2 ^ 32 := by
  obtain ⟨h1, h2⟩ := bounds_u32 h
  exact ⟨n.toNat, by omega, by omega⟩
theorem open_bok {H : Type} {enc : TypeId × Value → H} {W : World} {base b0 : Nat} {spare : Nat → Bool} {held : Bool} {r : Reach} {v : Value} {d : DataW H} {p : List MemPlace} (hv : Value.okWide Try.prog W r b0 24 v)
    (h : DataW.Trod enc Try.prog W base spare held 24 v d p) (hz : Sized Try.prog 24 d) : ∃ x : BX, v = .slice x.A x.b.length x.c ∧ BOk W x ∧ (x.A = none → x.c = 0) := by
  obtain ⟨A, c, b, rfl, h1, h2, h3, h4⟩ := open_bytesV Try.underlying24 Try.underlying5 (by kernel_rfl) (by kernel_rfl) hv h hz
  exact ⟨⟨A, c, b⟩, rfl, ⟨h1, h2, h3, h4⟩, open_nilV Try.underlying24 Try.underlying5 (by kernel_rfl) h⟩
end Go.Proofs.Ytopehblbkffncaa
