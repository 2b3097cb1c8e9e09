/-
  tree.Get.
-/
import Derived.Test.YtedcaodbcognjaaDoorTPuts
namespace Go.Proofs.YtedcaodbcognjaaDoor
open Go Go.RowKit Go.Shelf Go.Proofs

theorem place_get (l : List FX) (s : ByteArray) : (placeX l s = -1 ∧ getT (flsX l) s.data.toList = none ∧ hasT (flsX l) s.data.toList = false) ∨ ∃ (k : Nat) (x : FX), placeX l s = (k : Int) ∧ l[k]? = some x ∧ getT (flsX l) s.data.toList = some x.b ∧ hasT (flsX l) s.data.toList = true := by
  have hp : ∀ x : FX, (x.fl.1 == s.data.toList) = (x.p.toList == s.toList) := fun x => by simp only [FX.fl, ByteArray.toList_eq]
  have hget : getT (flsX l) s.data.toList = (l.find? fun x => x.p.toList == s.toList).map FX.b := by
    unfold getT flsX
    rw [List.find?_map, Option.map_map]
    have e : ((fun x : Fl => x.1 == s.data.toList) ∘ FX.fl) = fun x : FX => x.p.toList == s.toList := funext hp
    rw [e]; rfl
  have hhas : hasT (flsX l) s.data.toList = l.any fun x => x.p.toList == s.toList := by
    unfold hasT flsX
    rw [List.any_map]
    exact congrArg l.any (funext hp)
  rcases idxF_cases (fun x : FX => x.p.toList == s.toList) l with ⟨h1, h2⟩ | ⟨k, x, h1, h2, h3, h4⟩
  · refine .inl ⟨h1, ?_, ?_⟩
    · rw [hget, List.find?_eq_none.2 (fun y hy => by rw [h2 y hy]; simp)]; rfl
    · rw [hhas, List.any_eq_false]
      exact fun y hy => by rw [h2 y hy]; simp
  · refine .inr ⟨k, x, h1, h2, ?_, ?_⟩
    · obtain ⟨hk, rfl⟩ := List.getElem?_eq_some_iff.1 h2
      rw [hget, (List.find?_eq_some_iff_getElem (p := fun x : FX => x.p.toList == s.toList)).2 ⟨h3, k, hk, rfl, fun j hj => by rw [h4 j _ hj (List.getElem?_eq_getElem (by omega))]; rfl⟩]; rfl
    · rw [hhas, List.any_eq_true]
      exact ⟨x, List.mem_of_getElem? h2, h3⟩

def GetPost (w : World) (r : Option Bs) (e : Ending) (w' : World) : Prop := match r with
  | none => e = .returned (.tuple #[.slice none 0 0, .bool false]) ∧ Below w.heap.size w w'
  | some b => ∃ A c, e = .returned (.tuple #[.slice A b.length c, .bool true]) ∧ BytesOwn w' A b ∧ Below w.heap.size w w'

set_option maxHeartbeats 1000000 in
theorem tget_any (l : List FX) (A : Option Addr) (c : Nat) (s : ByteArray) (w : World) (h : TreeAt w A c l) (hs : SmallX l) :
    Calls Tryd.prog 22 #[.slice A l.length c, .string s] w (GetPost w (getT (flsX l) s.data.toList)) := by
  have HF := Lib.hid (find_any l A c s w h)
  rcases place_get l s with ⟨h1, h2, _⟩ | ⟨k, x, h1, h2, h3, _⟩
  · rw [h2]
    rw [h1] at HF
    clear h1 h2
    have HT := Lib.hid h; clear h
    go_enter Tryd.func22, Tryd.ntmps22
    go_wp2_with fail
    refine HF.out.mono ?_
    rintro e w1 ⟨rfl, hb1⟩
    go_wp2_with fail
    go_ret2
    exact ⟨rfl, hb1⟩
  · rw [h3]
    rw [h1] at HF
    have hkl := (List.getElem?_eq_some_iff.1 h2).1
    obtain ⟨g, o, rfl, hr⟩ := h.row (by omega)
    have hxb := h.files x (List.mem_of_getElem? h2)
    have hxs := (hs.2 x (List.mem_of_getElem? h2)).2
    have c2 := (hr k x h2).2
    have hgl : g < w.heap.size := World.block_lt_of_cell? w (a := ⟨g, o + k * 2 + 1, none⟩) c2
    have k0 : ¬ (k : Int) < 0 := by omega
    have k1 : (k : Int) < (l.length : Int) := by omega
    have HX := Lib.hid hxb; clear hxb
    have HS := Lib.hid hs; clear hs
    clear h1 h2 h3 hr h
    go_enter Tryd.func22, Tryd.ntmps22
    go_wp2_with fail
    refine HF.out.mono ?_
    rintro e w1 ⟨rfl, hb1⟩
    have e2 : w1.cell? ⟨g, o + k * 2 + 1, none⟩ = some (.slice x.A x.b.length x.c) := (hb1.cell (p := ⟨g, o + k * 2 + 1, none⟩) hgl).trans c2
    have HC := Lib.hid (bclone_any x.A x.c x.b w1 (HX.out.below hb1) hxs)
    have HB1 := Lib.hid hb1; clear hb1 c2
    go_wp2_with fail
    refine HC.out.mono ?_
    rintro e w2 ⟨A', c', rfl, ho, hb2⟩
    have HO := Lib.hid ho; clear ho
    go_wp2_with fail
    go_ret2
    exact ⟨A', c', rfl, HO.out, HB1.out.trans (hb2.mono HB1.out.size)⟩
end Go.Proofs.YtedcaodbcognjaaDoor
