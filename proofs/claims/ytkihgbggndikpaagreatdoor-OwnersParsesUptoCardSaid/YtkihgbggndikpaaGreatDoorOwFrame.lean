/-
  What the laws of layer 8 want of the library's tables: they are as they were laid.
-/
import Derived.Test.YtkihgbggndikpaaGreatDoorTFrame
import Derived.Test.YtkihgbggndikpaaGreatDoorOwFields
namespace Go.Proofs.YtkihgbggndikpaaGreatDoor
open Go Go.RowKit Go.Shelf Go.Proofs Go.Lib

theorem u8_extra : U8Extra Tryz.prog Tryz.lays260_ren := ⟨by kernel_rfl, by kernel_rfl, by kernel_rfl, by kernel_rfl, by kernel_rfl, by kernel_rfl, by kernel_rfl⟩
theorem first_eq : (Rows.laid_unicode_utf8_first : DataW Unit) = firstData := by kernel_rfl
theorem accept_eq : (Rows.laid_unicode_utf8_acceptRanges : DataW Unit) = acceptData := by kernel_rfl
theorem tabs_of {W : World} (hL : laidMet Tryz.prog [("unicode/utf8.acceptRanges", Rows.laid_unicode_utf8_acceptRanges), ("unicode/utf8.first", Rows.laid_unicode_utf8_first)] W) : TabsOk W := by
  rw [first_eq, accept_eq] at hL
  exact utf8Tabs_of_readsT (U8Types.of260 Tryz.lays260) u8_extra (laidMet.reads hL (.tail _ (.head _))) (laidMet.reads hL (.head _))
end Go.Proofs.YtkihgbggndikpaaGreatDoor
