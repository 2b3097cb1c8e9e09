/-
  The program's small functions of layer 3 (history): Head, Last.
-/
import Derived.Test.YtffhfllikamccaaGreatDoorProg
import Derived.Test.YtffhfllikamccaaGreatDoorHMem
import Derived.Test.YtffhfllikamccaaGreatDoorTApply
import Derived.WalkKit
import Derived.Lib.Hide
namespace Go.Proofs.YtffhfllikamccaaGreatDoor
open Go Go.RowKit Go.Shelf Go.Proofs Go.ChangeMaps Go.Maps Go.WideMaps

theorem hlaw : Keyed Tryz.prog 9 := string_keyed Tryz.underlying9
theorem hzero (w : World) : (zeroValue 83).run Tryz.prog w = .ok (.pointer none) w := by kernel_rfl
/-- The map of a history: block mb, of at most k entries. -/
def MapAt (w : World) (mb k : Nat) (D : DataW Unit) : Prop := w.ownsMap Tryz.prog 9 ptrD mb k D
/-- What is looked up at a path. -/
theorem MapAt.look {w : World} {mb k : Nat} {D : DataW Unit} (h : MapAt w mb k D) (s : ByteArray) (hs : s.size ≤ maxLen) :
    ∃ v ps, (Instr.lookup 72 (.map (some mb)) (.string s) false).run Tryz.prog w = .ok v w ∧ ptrD v = some (atS D s.data.toList, ps) := by
  have h' : w.ownsMap Tryz.prog 9 ptrD mb k D := h
  exact h'.lookup (e := 83) hlaw Tryz.underlying72 (hzero w) (zd := .nil) (zp := []) rfl (keyOf_string_mk Tryz.underlying9 hs)

theorem hhead_any (hb : Nat) (A : Option Addr) (n c : Nat) (w : World) (h1 : w.cell? ⟨hb, 1, none⟩ = some (.slice A n c)) :
    Calls Tryz.prog 11 #[.pointer (some ⟨hb, 0, none⟩)] w fun e w' => e = .returned (.int .i64 n) ∧ w' = w := by
  go_enter Tryz.func11, Tryz.ntmps11
  go_wp2_with fail
  go_ret
  exact ⟨rfl, rfl⟩
theorem hhead_nil (w : World) :
    Calls Tryz.prog 11 #[.pointer none] w fun e w' => e = .returned (.int .i64 (-1)) ∧ w' = w := by
  go_enter Tryz.func11, Tryz.ntmps11
  go_wp2_with fail
  go_ret
  exact ⟨rfl, rfl⟩

theorem hlast_any (hb mb k : Nat) (D : DataW Unit) (M : Bs → Nat) (s : ByteArray) (hs : s.size ≤ maxLen) (w : World) (h2 : w.cell? ⟨hb, 2, none⟩ = some (.map (some mb))) (hm : MapAt w mb k D) (hr : RevsAt 85 w D M) :
    Calls Tryz.prog 22 #[.pointer (some ⟨hb, 0, none⟩), .string s] w fun e w' => e = .returned (.int .i64 (M s.data.toList : Int)) ∧ w' = w := by
  obtain ⟨v, ps, hrun, hv⟩ := hm.look s hs
  rcases hr s.data.toList with ⟨h3, h4⟩ | ⟨g, o, cur, h3, h5, h4⟩
  · rw [h3] at hv
    obtain rfl := ptrD_nil hv
    rw [h4]
    clear hm hr hv h3 h4
    go_enter Tryz.func22, Tryz.ntmps22
    go_wp2_with fail
    go_ret
    exact ⟨rfl, rfl⟩
  · rw [h3] at hv
    obtain rfl := ptrD_addr hv
    generalize M s.data.toList = m at *
    have h4 := (cell_of_row w g (o + 3) _ _ _ h5).trans h4
    clear hm hr hv h3 h5
    go_enter Tryz.func22, Tryz.ntmps22
    go_wp2_with fail
    go_ret
    exact ⟨rfl, rfl⟩
end Go.Proofs.YtffhfllikamccaaGreatDoor
