/-
  build.Place, build.told; the document's own Place.
-/
import Derived.Test.YtckpojkbcbogbaaDoorBdAll
import Derived.Test.YtckpojkbcbogbaaDoorBdMem
import Derived.Test.YtckpojkbcbogbaaDoorConsists
import Derived.Test.YtckpojkbcbogbaaDoorShelf
import Derived.Lib.Hide
namespace Go.Proofs.YtckpojkbcbogbaaDoor
open Go Go.RowKit Go.Shelf Go.Proofs
attribute [local go_sem] Oper.semAt_some

theorem bplace1_any (x : TX) (s : ByteArray) (B : Nat) (w : World) (hB : B < w.heap.size) (hc : w.cell? ⟨B, 0, none⟩ = some (.string s)) :
    Calls Tryd.prog 36 #[.agg #[.string x.n, .slice x.A x.s.length x.c, .slice x.B x.d.length x.b], .pointer (some ⟨B, 0, none⟩)] w fun e w' => e = .returned (.bool (x.n.toList == s.toList)) ∧ Below w.heap.size w w' := by
  go_enter Tryd.func36, Tryd.ntmps36
  go_wp2_with fail
  go_ret
  exact ⟨rfl, (Below.refl _ w).alloc (Nat.le_refl _) _⟩
def PredG (g : Nat) (lb : Array Value) (p : TX → Bool) (l : List TX) (w : World) : Prop :=
  ∀ (W : World) (x : TX), x ∈ l → Below w.heap.size w W → Calls Tryd.prog g (#[.agg #[.string x.n, .slice x.A x.s.length x.c, .slice x.B x.d.length x.b]] ++ lb) W fun e w' => e = .returned (.bool (p x)) ∧ Below W.heap.size W w'
def idxG (p : TX → Bool) (l : List TX) : Int := match l.findIdx? p with
  | some i => i
  | none => -1
theorem idxG_hit {p : TX → Bool} {l : List TX} {k : Nat} {x : TX} (hx : l[k]? = some x) (hp : p x = true) (hn : ∀ j y, j < k → l[j]? = some y → p y = false) : idxG p l = k := by
  have : l.findIdx? p = some k := by
    rw [List.findIdx?_eq_some_iff_getElem]
    obtain ⟨hk, rfl⟩ := List.getElem?_eq_some_iff.1 hx
    exact ⟨hk, hp, fun j hj => by simpa using hn j _ hj (List.getElem?_eq_getElem (by omega))⟩
  unfold idxG; rw [this]
theorem idxG_miss {p : TX → Bool} {l : List TX} (hn : ∀ y ∈ l, p y = false) : idxG p l = -1 := by
  have : l.findIdx? p = none := by rw [List.findIdx?_eq_none_iff]; exact hn
  unfold idxG; rw [this]
theorem idxG_place (l : List TX) (s : ByteArray) : idxG (fun x => x.n.toList == s.toList) l = placeT (tgsX l) s.data.toList := by
  unfold idxG placeT tgsX
  rw [List.findIdx?_map]
  have : (fun x : TX => x.n.toList == s.toList) = ((fun x : Tg => x.n == s.data.toList) ∘ TX.tg) := by
    funext x
    show (x.n.toList == s.toList) = (x.n.data.toList == s.data.toList)
    rw [ByteArray.toList_eq, ByteArray.toList_eq]
  rw [this]
  cases List.findIdx? ((fun x : Tg => x.n == s.data.toList) ∘ TX.tg) l <;> rfl

set_option maxHeartbeats 2000000 in
theorem indexG_any (g : Nat) (lb : Array Value) (p : TX → Bool) (l : List TX) (A : Option Addr) (c : Nat) (w : World)
    (eg : ∀ args w, (callFunc g args).run Tryd.prog w = .ok (.enter g args) w) (hp : PredG g lb p l w) (hl : l.length ≤ maxLen) (hr : 0 < l.length → ∃ b o, A = some ⟨b, o, none⟩ ∧ RowG w b o l) :
    Calls Tryd.prog 35 #[.slice A l.length c, .func (.func g) #[] lb] w fun e w' => e = .returned (.int .i64 (idxG p l)) ∧ Below w.heap.size w w' := by
  unfold maxLen at hl
  have EG := Lib.hid eg; clear eg
  have HP := Lib.hid hp; clear hp
  have HR := Lib.hid hr; clear hr
  go_enter Tryd.func35, Tryd.ntmps35
  go_wp2_with fail
  go_loopw [5, 8] (fun _ s8 wr => ∃ k : Nat, k ≤ l.length ∧ s8 = .int .i64 k ∧ Hid (Below w.heap.size w wr) ∧ Hid (∀ j y, j < k → l[j]? = some y → p y = false)) (fun _ s8 _ => l.length - (intOf s8).toNat)
  case atStart => exact ⟨0, Nat.zero_le _, rfl, Below.refl _ w, fun j y hj => absurd hj (Nat.not_lt_zero _)⟩
  case round =>
    obtain ⟨k, hk, rfl, HB, HN⟩ := hrel
    by_cases hlt : k < l.length
    · obtain ⟨x, hx⟩ : ∃ x, l[k]? = some x := ⟨_, List.getElem?_eq_getElem hlt⟩
      obtain ⟨b, o, hA, hrow⟩ := HR.out (by omega)
      subst hA
      obtain ⟨c1, c2, c3⟩ := (hrow.below HB.out) k x hx
      have hcall := HP.out wr x (List.mem_of_getElem? hx) HB.out
      have HX := Lib.hid hx; clear hx
      have HROW := Lib.hid hrow; clear hrow
      have eg := EG.out
      cases hq : p x with
      | true =>
        rw [hq] at hcall
        have HQ := Lib.hid hq; clear hq
        have HC := Lib.hid hcall; clear hcall
        go_wp2_with (go_at_fn g; refine HC.out.mono ?_; rintro e w' ⟨rfl, hb'⟩)
        go_ret
        exact ⟨by rw [idxG_hit HX.out HQ.out HN.out]; rfl, HB.out.trans (hb'.mono HB.out.size)⟩
      | false =>
        rw [hq] at hcall
        have HQ := Lib.hid hq; clear hq
        have HC := Lib.hid hcall; clear hcall
        go_wp2_with (go_at_fn g; refine HC.out.mono ?_; rintro e w' ⟨rfl, hb'⟩)
        go_roundw
        case rel =>
          refine ⟨k + 1, by omega, by go_num, HB.out.trans (hb'.mono HB.out.size), fun j y hj hy => ?_⟩
          by_cases e : j = k
          · subst e
            have := HX.out.symm.trans hy
            cases this
            exact HQ.out
          · exact HN.out j y (by omega) hy
        case measure => simp [intOf]; omega
    · go_wp2_with fail
      go_ret
      have hm : idxG p l = -1 := idxG_miss fun y hy => by
        obtain ⟨j, hj⟩ := List.mem_iff_getElem?.1 hy
        have := (List.getElem?_eq_some_iff.1 hj).1
        exact HN.out j y (by omega) hj
      exact ⟨by rw [hm]; rfl, HB.out⟩
theorem bplace_any (l : List TX) (A : Option Addr) (c : Nat) (s : ByteArray) (w : World) (h : TgsAt w A c l) :
    Calls Tryd.prog 15 #[.slice A l.length c, .string s] w fun e w' => e = .returned (.int .i64 (placeT (tgsX l) s.data.toList)) ∧ Below w.heap.size w w' := by
  rw [← idxG_place]
  have hm : l.length ≤ maxLen := Nat.le_trans h.cap h.capm
  have EG := Lib.hid (enters_of (P := Tryd.prog) Tryd.func36 (by kernel_rfl) rfl)
  have hb : Below w.heap.size w (w.alloc (.cells #[.string s] 9)) := (Below.refl _ w).alloc (Nat.le_refl _) _
  have hC := indexG_any 36 #[.pointer (some ⟨w.heap.size, 0, none⟩)] (fun x => x.n.toList == s.toList) l A c (w.alloc (.cells #[.string s] 9)) EG.out
    (fun W x _ hW => bplace1_any x s w.heap.size W (Nat.lt_of_lt_of_le (by simp) hW.size) ((hW.cell (p := ⟨w.heap.size, 0, none⟩) (by simp)).trans (cell_of_row _ _ 0 _ _ _ (heap_alloc_new w _)))) hm (fun hn => (h.below hb).row hn)
  have HC := Lib.hid hC; clear hC
  have HB := Lib.hid hb; clear hb
  have HT := Lib.hid h; clear h
  go_enter Tryd.func15, Tryd.ntmps15
  go_wp2_with fail
  refine HC.out.mono ?_
  rintro e w1 ⟨rfl, hb1⟩
  go_wp2_with fail
  go_ret
  exact ⟨rfl, HB.out.trans (hb1.mono (by simp))⟩
/-- With an error nothing is told of what was read. -/
theorem btold_any (b e : Nat) (v : Value) (n : Int) (w : World) (hv : Boxed w b 26 v) (he : Boxed w e 27 (.int .i64 n)) :
    Calls Tryd.prog 21 #[.pointer (some ⟨b, 0, none⟩), .pointer (some ⟨e, 0, none⟩)] w fun r w' => r = .returned (.tuple #[]) ∧ w' = if n = 0 then w else w.setCell ⟨b, 0, none⟩ (.slice none 0 0) := by
  have c0 := hv.cell
  have c1 := he.cell
  have f0 := hv.frozen
  by_cases hn : n = 0
  · subst hn
    go_enter Tryd.func21, Tryd.ntmps21
    go_wp2_with fail
    go_end0
    exact ⟨rfl, rfl⟩
  · have e2 : (n != 0) = true := by simpa using hn
    have e3 : (n = 0) = False := eq_false hn
    rw [if_neg hn]
    clear hn
    go_enter Tryd.func21, Tryd.ntmps21
    go_wp2_with fail
    go_end0
    exact ⟨rfl, rfl⟩
end Go.Proofs.YtckpojkbcbogbaaDoor
