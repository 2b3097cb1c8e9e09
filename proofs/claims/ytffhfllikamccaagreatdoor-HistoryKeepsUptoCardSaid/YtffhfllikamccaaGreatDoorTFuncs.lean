/-
  The contracts of package tree's closures.
-/
import Derived.Test.YtffhfllikamccaaGreatDoorTMem
import Derived.WalkKit
import Derived.WalkLawsBesides
import Derived.Lib.Hide
import Derived.Outline
import Derived.Test.YtffhfllikamccaaGreatDoorProg
namespace Go.Proofs.YtffhfllikamccaaGreatDoor
open Go Go.RowKit Go.Shelf Go.Proofs

theorem ret_boolT {a b : Bool} (h : a = b) : Ending.returned (.bool a) = .returned (.bool b) := by rw [h]

theorem long1_any (x : FX) (w : World) :
    Calls Tryz.prog 64 #[.agg #[.string x.p, .slice x.A x.b.length x.c]] w fun e w' => e = .returned (.bool (decide (65536 < x.b.length))) ∧ Below w.heap.size w w' := by
  go_enter Tryz.func64, Tryz.ntmps64
  go_wp2_with fail
  go_ret
  exact ⟨ret_boolT (by simp; omega), (Below.refl _ w).alloc (Nat.le_refl _) _⟩
theorem find1_any (x : FX) (s : ByteArray) (B : Nat) (w : World) (hB : B < w.heap.size) (hc : w.cell? ⟨B, 0, none⟩ = some (.string s)) :
    Calls Tryz.prog 91 #[.agg #[.string x.p, .slice x.A x.b.length x.c], .pointer (some ⟨B, 0, none⟩)] w fun e w' => e = .returned (.bool (x.p.toList == s.toList)) ∧ Below w.heap.size w w' := by
  go_enter Tryz.func91, Tryz.ntmps91
  go_wp2_with fail
  go_ret
  exact ⟨rfl, (Below.refl _ w).alloc (Nat.le_refl _) _⟩
theorem drop1_any (x : FX) (s : ByteArray) (B : Nat) (w : World) (hB : B < w.heap.size) (hc : w.cell? ⟨B, 0, none⟩ = some (.string s)) :
    Calls Tryz.prog 93 #[.agg #[.string x.p, .slice x.A x.b.length x.c], .pointer (some ⟨B, 0, none⟩)] w fun e w' => e = .returned (.bool (x.p.toList == s.toList)) ∧ Below w.heap.size w w' := by
  go_enter Tryz.func93, Tryz.ntmps93
  go_wp2_with fail
  go_ret
  exact ⟨rfl, (Below.refl _ w).alloc (Nat.le_refl _) _⟩
theorem put1_any (x : FX) (s : ByteArray) (B : Nat) (w : World) (hB : B < w.heap.size) (hc : w.cell? ⟨B, 0, none⟩ = some (.string s)) :
    Calls Tryz.prog 94 #[.agg #[.string x.p, .slice x.A x.b.length x.c], .pointer (some ⟨B, 0, none⟩)] w fun e w' => e = .returned (.bool (ltB s.data.toList x.p.data.toList)) ∧ Below w.heap.size w w' := by
  go_enter Tryz.func94, Tryz.ntmps94
  go_wp2_with fail
  go_ret
  exact ⟨ret_boolT (by rw [ByteArray.toList_eq, ByteArray.toList_eq]; exact gtB_eq _ _), (Below.refl _ w).alloc (Nat.le_refl _) _⟩

/-- What is asked of a predicate: in whatever world that has all that lay in w it answers p, and turns nothing. -/
def PredF (g : Nat) (lb : Array Value) (p : FX → Bool) (l : List FX) (w : World) : Prop :=
  ∀ (W : World) (x : FX), x ∈ l → Below w.heap.size w W → Calls Tryz.prog g (#[.agg #[.string x.p, .slice x.A x.b.length x.c]] ++ lb) W fun e w' => e = .returned (.bool (p x)) ∧ Below W.heap.size W w'
def idxF (p : FX → Bool) (l : List FX) : Int := match l.findIdx? p with
  | some i => i
  | none => -1
theorem idxF_hit {p : FX → Bool} {l : List FX} {k : Nat} {x : FX} (hx : l[k]? = some x) (hp : p x = true) (hn : ∀ j y, j < k → l[j]? = some y → p y = false) : idxF p l = k := by
  have : l.findIdx? p = some k := by
    rw [List.findIdx?_eq_some_iff_getElem]
    obtain ⟨hk, rfl⟩ := List.getElem?_eq_some_iff.1 hx
    exact ⟨hk, hp, fun j hj => by simpa using hn j _ hj (List.getElem?_eq_getElem (by omega))⟩
  unfold idxF; rw [this]
theorem idxF_miss {p : FX → Bool} {l : List FX} (hn : ∀ y ∈ l, p y = false) : idxF p l = -1 := by
  have : l.findIdx? p = none := by rw [List.findIdx?_eq_none_iff]; exact hn
  unfold idxF; rw [this]
theorem idxF_cases (p : FX → Bool) (l : List FX) : (idxF p l = -1 ∧ ∀ y ∈ l, p y = false) ∨ ∃ k x, idxF p l = (k : Nat) ∧ l[k]? = some x ∧ p x = true ∧ ∀ j y, j < k → l[j]? = some y → p y = false := by
  cases h : l.findIdx? p with
  | none => exact .inl ⟨by unfold idxF; rw [h], by rw [List.findIdx?_eq_none_iff] at h; exact h⟩
  | some k =>
    obtain ⟨hk, h1, h2⟩ := List.findIdx?_eq_some_iff_getElem.1 h
    refine .inr ⟨k, l[k], by unfold idxF; rw [h], List.getElem?_eq_getElem hk, h1, fun j y hj hy => ?_⟩
    obtain ⟨_, rfl⟩ := List.getElem?_eq_some_iff.1 hy
    simpa using h2 j hj

set_option maxHeartbeats 1000000 in
theorem indexF_any (g : Nat) (lb : Array Value) (p : FX → Bool) (l : List FX) (A : Option Addr) (c : Nat) (w : World)
    (eg : ∀ args w, (callFunc g args).run Tryz.prog w = .ok (.enter g args) w) (hp : PredF g lb p l w) (hl : l.length ≤ maxLen) (hr : 0 < l.length → ∃ b o, A = some ⟨b, o, none⟩ ∧ RowF w b o l) :
    Calls Tryz.prog 87 #[.slice A l.length c, .func (.func g) #[] lb] w fun e w' => e = .returned (.int .i64 (idxF p l)) ∧ Below w.heap.size w w' := by
  unfold maxLen at hl
  have EG := Lib.hid eg; clear eg
  have HP := Lib.hid hp; clear hp
  have HR := Lib.hid hr; clear hr
  go_enter Tryz.func87, Tryz.ntmps87
  go_wp2_with fail
  go_loopw [5, 8] (fun _ s8 wr => ∃ k : Nat, k ≤ l.length ∧ s8 = .int .i64 k ∧ Hid (Below w.heap.size w wr) ∧ Hid (∀ j y, j < k → l[j]? = some y → p y = false)) (fun _ s8 _ => l.length - (intOf s8).toNat)
  case atStart => exact ⟨0, Nat.zero_le _, rfl, Below.refl _ w, fun j y hj => absurd hj (Nat.not_lt_zero _)⟩
  case round =>
    obtain ⟨k, hk, rfl, HB, HN⟩ := hrel
    by_cases hlt : k < l.length
    · obtain ⟨x, hx⟩ : ∃ x, l[k]? = some x := ⟨_, List.getElem?_eq_getElem hlt⟩
      obtain ⟨b, o, hA, hrow⟩ := HR.out (by omega)
      subst hA
      obtain ⟨c1, c2⟩ := (hrow.below HB.out) k x hx
      have hcall := HP.out wr x (List.mem_of_getElem? hx) HB.out
      have HX := Lib.hid hx; clear hx
      have HROW := Lib.hid hrow; clear hrow
      have eg := EG.out
      cases hq : p x with
      | true =>
        rw [hq] at hcall
        have HQ := Lib.hid hq; clear hq
        have HC := Lib.hid hcall; clear hcall
        go_wp2_with (go_at_fn g; refine HC.out.mono ?_; rintro e w' ⟨rfl, hb'⟩)
        go_ret
        exact ⟨by rw [idxF_hit HX.out HQ.out HN.out]; rfl, HB.out.trans (hb'.mono HB.out.size)⟩
      | false =>
        rw [hq] at hcall
        have HQ := Lib.hid hq; clear hq
        have HC := Lib.hid hcall; clear hcall
        go_wp2_with (go_at_fn g; refine HC.out.mono ?_; rintro e w' ⟨rfl, hb'⟩)
        go_roundw
        case rel =>
          refine ⟨k + 1, by omega, by go_num, HB.out.trans (hb'.mono HB.out.size), fun j y hj hy => ?_⟩
          by_cases e : j = k
          · subst e
            have := HX.out.symm.trans hy
            cases this
            exact HQ.out
          · exact HN.out j y (by omega) hy
        case measure => simp [intOf]; omega
    · go_wp2_with fail
      go_ret
      have hm : idxF p l = -1 := idxF_miss fun y hy => by
        obtain ⟨j, hj⟩ := List.mem_iff_getElem?.1 hy
        have := (List.getElem?_eq_some_iff.1 hj).1
        exact HN.out j y (by omega) hj
      exact ⟨by rw [hm]; rfl, HB.out⟩

set_option maxHeartbeats 1000000 in
theorem containsF_any (g : Nat) (lb : Array Value) (p : FX → Bool) (l : List FX) (A : Option Addr) (c : Nat) (w : World)
    (eg : ∀ args w, (callFunc g args).run Tryz.prog w = .ok (.enter g args) w) (hp : PredF g lb p l w) (hl : l.length ≤ maxLen) (hr : 0 < l.length → ∃ b o, A = some ⟨b, o, none⟩ ∧ RowF w b o l) :
    Calls Tryz.prog 63 #[.slice A l.length c, .func (.func g) #[] lb] w fun e w' => e = .returned (.bool (l.any p)) ∧ Below w.heap.size w w' := by
  unfold maxLen at hl
  have HI := Lib.hid (indexF_any g lb p l A c w eg hp (by unfold maxLen; omega) hr)
  have hcase : decide (0 ≤ idxF p l) = l.any p := by
    rcases idxF_cases p l with ⟨h1, h2⟩ | ⟨k, x, h1, h2, h3, _⟩
    · rw [h1]
      have : l.any p = false := by rw [List.any_eq_false]; intro y hy; rw [h2 y hy]; simp
      rw [this]; rfl
    · rw [h1]
      have : l.any p = true := by rw [List.any_eq_true]; exact ⟨x, List.mem_of_getElem? h2, h3⟩
      rw [this]; simp
  have HC := Lib.hid hcase; clear hcase hp hr
  go_enter Tryz.func63, Tryz.ntmps63
  go_wp2_with fail
  refine HI.out.mono ?_
  rintro e w1 ⟨rfl, hb1⟩
  go_wp2_with fail
  go_ret
  exact ⟨ret_boolT HC.out, hb1⟩

theorem long_any (l : List FX) (A : Option Addr) (c : Nat) (w : World) (h : TreeAt w A c l) :
    Calls Tryz.prog 47 #[.slice A l.length c] w fun e w' => e = .returned (.bool (longT (flsX l))) ∧ Below w.heap.size w w' := by
  have hm : l.length ≤ maxLen := Nat.le_trans h.cap h.capm
  have EG := Lib.hid (enters_of (P := Tryz.prog) Tryz.func64 (by kernel_rfl) rfl)
  have hC := containsF_any 64 #[] (fun x => decide (65536 < x.b.length)) l A c w EG.out (fun W x _ _ => long1_any x W) hm h.row
  have hr : longT (flsX l) = (decide (1000 < l.length) || l.any (fun x => decide (65536 < x.b.length))) := by
    unfold longT
    rw [flsX_length]
    unfold flsX
    rw [List.any_map]; rfl
  have HC := Lib.hid hC; clear hC
  have HR := Lib.hid hr; clear hr
  have HT := Lib.hid h; clear h
  unfold maxLen at hm
  by_cases h1 : 1000 < l.length
  · go_enter Tryz.func47, Tryz.ntmps47
    go_wp2_with fail
    go_ret
    exact ⟨ret_boolT (by rw [HR.out]; simp [h1]), Below.refl _ _⟩
  · go_enter Tryz.func47, Tryz.ntmps47
    go_wp2_with fail
    refine HC.out.mono ?_
    rintro e w1 ⟨rfl, hb1⟩
    go_wp2_with fail
    go_ret
    exact ⟨ret_boolT (by rw [HR.out, decide_eq_false (show ¬ 1000 < l.length from h1), decide_eq_false (show ¬ (1000 : Int) < (l.length : Int) by omega)]), hb1⟩

/-- The place of the first file of a path; below 0: there is none. -/
def placeX (l : List FX) (s : ByteArray) : Int := idxF (fun x => x.p.toList == s.toList) l
theorem find_any (l : List FX) (A : Option Addr) (c : Nat) (s : ByteArray) (w : World) (h : TreeAt w A c l) :
    Calls Tryz.prog 72 #[.slice A l.length c, .string s] w fun e w' => e = .returned (.int .i64 (placeX l s)) ∧ Below w.heap.size w w' := by
  have hm : l.length ≤ maxLen := Nat.le_trans h.cap h.capm
  have EG := Lib.hid (enters_of (P := Tryz.prog) Tryz.func91 (by kernel_rfl) rfl)
  have hb : Below w.heap.size w (w.alloc (.cells #[.string s] 9)) := (Below.refl _ w).alloc (Nat.le_refl _) _
  have hC := indexF_any 91 #[.pointer (some ⟨w.heap.size, 0, none⟩)] (fun x => x.p.toList == s.toList) l A c (w.alloc (.cells #[.string s] 9)) EG.out
    (fun W x _ hW => find1_any x s w.heap.size W (Nat.lt_of_lt_of_le (by simp) hW.size) ((hW.cell (p := ⟨w.heap.size, 0, none⟩) (by simp)).trans (cell_of_row _ _ 0 _ _ _ (heap_alloc_new w _)))) hm ((h.below hb).row)
  have HC := Lib.hid hC; clear hC
  have HB := Lib.hid hb; clear hb
  have HT := Lib.hid h; clear h
  go_enter Tryz.func72, Tryz.ntmps72
  go_wp2_with fail
  refine HC.out.mono ?_
  rintro e w1 ⟨rfl, hb1⟩
  go_wp2_with fail
  go_ret
  exact ⟨rfl, HB.out.trans (hb1.mono (by simp))⟩
end Go.Proofs.YtffhfllikamccaaGreatDoor
