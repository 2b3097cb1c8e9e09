/-
  slices.IndexFunc, slices.ContainsFunc of texts and of rules; the contract of rule.all.
-/
import Derived.Test.YthkbpophckjdnaaDoorRlSmall
import Derived.Test.YthkbpophckjdnaaDoorRlMem
namespace Go.Proofs.YthkbpophckjdnaaDoor
open Go Go.RowKit Go.Shelf Go.Proofs
attribute [local go_sem] Oper.semAt_some

/-- Texts in a row. -/
def RowA (w : World) (g o : Nat) (l : List ByteArray) : Prop := ∀ i x, l[i]? = some x → w.cell? ⟨g, o + i, none⟩ = some (.string x)
theorem RowA.below {w w' : World} {g o : Nat} {l : List ByteArray} (h : RowA w g o l) (hb : Below w.heap.size w w') : RowA w' g o l := fun i x hx => by
  have h1 := h i x hx
  have hl : g < w.heap.size := World.block_lt_of_cell? w (a := ⟨g, o + i, none⟩) h1
  exact (hb.cell (p := ⟨g, o + i, none⟩) hl).trans h1
def PredS (g : Nat) (lb : Array Value) (p : ByteArray → Bool) (l : List ByteArray) (w : World) : Prop :=
  ∀ (W : World) (x : ByteArray), x ∈ l → Below w.heap.size w W → Calls Tryd.prog g (#[.string x] ++ lb) W fun e w' => e = .returned (.bool (p x)) ∧ Below W.heap.size W w'
def idxS (p : ByteArray → Bool) (l : List ByteArray) : Int := match l.findIdx? p with
  | some i => i
  | none => -1
theorem idxS_hit {p : ByteArray → Bool} {l : List ByteArray} {k : Nat} {x : ByteArray} (hx : l[k]? = some x) (hp : p x = true) (hn : ∀ j y, j < k → l[j]? = some y → p y = false) : idxS p l = k := by
  have : l.findIdx? p = some k := by
    rw [List.findIdx?_eq_some_iff_getElem]
    obtain ⟨hk, rfl⟩ := List.getElem?_eq_some_iff.1 hx
    exact ⟨hk, hp, fun j hj => by simpa using hn j _ hj (List.getElem?_eq_getElem (by omega))⟩
  unfold idxS; rw [this]
theorem idxS_miss {p : ByteArray → Bool} {l : List ByteArray} (hn : ∀ y ∈ l, p y = false) : idxS p l = -1 := by
  have : l.findIdx? p = none := by rw [List.findIdx?_eq_none_iff]; exact hn
  unfold idxS; rw [this]
set_option maxHeartbeats 2000000 in
theorem indexS_any (g : Nat) (lb : Array Value) (p : ByteArray → Bool) (l : List ByteArray) (A : Option Addr) (c : Nat) (w : World)
    (eg : ∀ args w, (callFunc g args).run Tryd.prog w = .ok (.enter g args) w) (hp : PredS g lb p l w) (hl : l.length ≤ maxLen) (hr : 0 < l.length → ∃ b o, A = some ⟨b, o, none⟩ ∧ RowA w b o l) :
    Calls Tryd.prog 77 #[.slice A l.length c, .func (.func g) #[] lb] w fun e w' => e = .returned (.int .i64 (idxS p l)) ∧ Below w.heap.size w w' := by
  unfold maxLen at hl
  have EG := Lib.hid eg; clear eg
  have HP := Lib.hid hp; clear hp
  have HR := Lib.hid hr; clear hr
  go_enter Tryd.func77, Tryd.ntmps77
  go_wp2_with fail
  go_loopw [5, 8] (fun _ s8 wr => ∃ k : Nat, k ≤ l.length ∧ s8 = .int .i64 k ∧ Hid (Below w.heap.size w wr) ∧ Hid (∀ j y, j < k → l[j]? = some y → p y = false)) (fun _ s8 _ => l.length - (intOf s8).toNat)
  case atStart => exact ⟨0, Nat.zero_le _, rfl, Below.refl _ w, fun j y hj => absurd hj (Nat.not_lt_zero _)⟩
  case round =>
    obtain ⟨k, hk, rfl, HB, HN⟩ := hrel
    by_cases hlt : k < l.length
    · obtain ⟨x, hx⟩ : ∃ x, l[k]? = some x := ⟨_, List.getElem?_eq_getElem hlt⟩
      obtain ⟨b, o, hA, hrow⟩ := HR.out (by omega)
      subst hA
      have c1 := (hrow.below HB.out) k x hx
      have hcall := HP.out wr x (List.mem_of_getElem? hx) HB.out
      have HX := Lib.hid hx; clear hx
      have HROW := Lib.hid hrow; clear hrow
      have eg := EG.out
      cases hq : p x with
      | true =>
        rw [hq] at hcall
        have HQ := Lib.hid hq; clear hq
        have HC := Lib.hid hcall; clear hcall
        go_wp2_with (go_at_fn g; refine HC.out.mono ?_; rintro e w' ⟨rfl, hb'⟩)
        go_ret
        exact ⟨by rw [idxS_hit HX.out HQ.out HN.out]; rfl, HB.out.trans (hb'.mono HB.out.size)⟩
      | false =>
        rw [hq] at hcall
        have HQ := Lib.hid hq; clear hq
        have HC := Lib.hid hcall; clear hcall
        go_wp2_with (go_at_fn g; refine HC.out.mono ?_; rintro e w' ⟨rfl, hb'⟩)
        go_roundw
        case rel =>
          refine ⟨k + 1, by omega, by go_num, HB.out.trans (hb'.mono HB.out.size), fun j y hj hy => ?_⟩
          by_cases e : j = k
          · subst e
            have := HX.out.symm.trans hy
            cases this
            exact HQ.out
          · exact HN.out j y (by omega) hy
        case measure => simp [intOf]; omega
    · go_wp2_with fail
      go_ret
      have hm : idxS p l = -1 := idxS_miss fun y hy => by
        obtain ⟨j, hj⟩ := List.mem_iff_getElem?.1 hy
        have := (List.getElem?_eq_some_iff.1 hj).1
        exact HN.out j y (by omega) hj
      exact ⟨by rw [hm]; rfl, HB.out⟩
def PredU (g : Nat) (lb : Array Value) (p : RX → Bool) (l : List RX) (w : World) : Prop :=
  ∀ (W : World) (x : RX), x ∈ l → Below w.heap.size w W → Calls Tryd.prog g (#[.agg #[.int .i64 x.k, .string x.g, .string x.o, .string x.n]] ++ lb) W fun e w' => e = .returned (.bool (p x)) ∧ Below W.heap.size W w'
def idxU (p : RX → Bool) (l : List RX) : Int := match l.findIdx? p with
  | some i => i
  | none => -1
theorem idxU_hit {p : RX → Bool} {l : List RX} {k : Nat} {x : RX} (hx : l[k]? = some x) (hp : p x = true) (hn : ∀ j y, j < k → l[j]? = some y → p y = false) : idxU p l = k := by
  have : l.findIdx? p = some k := by
    rw [List.findIdx?_eq_some_iff_getElem]
    obtain ⟨hk, rfl⟩ := List.getElem?_eq_some_iff.1 hx
    exact ⟨hk, hp, fun j hj => by simpa using hn j _ hj (List.getElem?_eq_getElem (by omega))⟩
  unfold idxU; rw [this]
theorem idxU_miss {p : RX → Bool} {l : List RX} (hn : ∀ y ∈ l, p y = false) : idxU p l = -1 := by
  have : l.findIdx? p = none := by rw [List.findIdx?_eq_none_iff]; exact hn
  unfold idxU; rw [this]
set_option maxHeartbeats 2000000 in
theorem indexU_any (g : Nat) (lb : Array Value) (p : RX → Bool) (l : List RX) (A : Option Addr) (c : Nat) (w : World)
    (eg : ∀ args w, (callFunc g args).run Tryd.prog w = .ok (.enter g args) w) (hp : PredU g lb p l w) (hl : l.length ≤ maxLen) (hr : 0 < l.length → ∃ b o, A = some ⟨b, o, none⟩ ∧ RowU w b o l) :
    Calls Tryd.prog 60 #[.slice A l.length c, .func (.func g) #[] lb] w fun e w' => e = .returned (.int .i64 (idxU p l)) ∧ Below w.heap.size w w' := by
  unfold maxLen at hl
  have EG := Lib.hid eg; clear eg
  have HP := Lib.hid hp; clear hp
  have HR := Lib.hid hr; clear hr
  go_enter Tryd.func60, Tryd.ntmps60
  go_wp2_with fail
  go_loopw [5, 8] (fun _ s8 wr => ∃ k : Nat, k ≤ l.length ∧ s8 = .int .i64 k ∧ Hid (Below w.heap.size w wr) ∧ Hid (∀ j y, j < k → l[j]? = some y → p y = false)) (fun _ s8 _ => l.length - (intOf s8).toNat)
  case atStart => exact ⟨0, Nat.zero_le _, rfl, Below.refl _ w, fun j y hj => absurd hj (Nat.not_lt_zero _)⟩
  case round =>
    obtain ⟨k, hk, rfl, HB, HN⟩ := hrel
    by_cases hlt : k < l.length
    · obtain ⟨x, hx⟩ : ∃ x, l[k]? = some x := ⟨_, List.getElem?_eq_getElem hlt⟩
      obtain ⟨b, o, hA, hrow⟩ := HR.out (by omega)
      subst hA
      obtain ⟨c1, c2, c3, c4⟩ := (hrow.below HB.out) k x hx
      have hcall := HP.out wr x (List.mem_of_getElem? hx) HB.out
      have HX := Lib.hid hx; clear hx
      have HROW := Lib.hid hrow; clear hrow
      have eg := EG.out
      cases hq : p x with
      | true =>
        rw [hq] at hcall
        have HQ := Lib.hid hq; clear hq
        have HC := Lib.hid hcall; clear hcall
        go_wp2_with (go_at_fn g; refine HC.out.mono ?_; rintro e w' ⟨rfl, hb'⟩)
        go_ret
        exact ⟨by rw [idxU_hit HX.out HQ.out HN.out]; rfl, HB.out.trans (hb'.mono HB.out.size)⟩
      | false =>
        rw [hq] at hcall
        have HQ := Lib.hid hq; clear hq
        have HC := Lib.hid hcall; clear hcall
        go_wp2_with (go_at_fn g; refine HC.out.mono ?_; rintro e w' ⟨rfl, hb'⟩)
        go_roundw
        case rel =>
          refine ⟨k + 1, by omega, by go_num, HB.out.trans (hb'.mono HB.out.size), fun j y hj hy => ?_⟩
          by_cases e : j = k
          · subst e
            have := HX.out.symm.trans hy
            cases this
            exact HQ.out
          · exact HN.out j y (by omega) hy
        case measure => simp [intOf]; omega
    · go_wp2_with fail
      go_ret
      have hm : idxU p l = -1 := idxU_miss fun y hy => by
        obtain ⟨j, hj⟩ := List.mem_iff_getElem?.1 hy
        have := (List.getElem?_eq_some_iff.1 hj).1
        exact HN.out j y (by omega) hj
      exact ⟨by rw [hm]; rfl, HB.out⟩

theorem idxS_any (p : ByteArray → Bool) (l : List ByteArray) : (0 ≤ idxS p l ↔ l.any p = true) ∧ -1 ≤ idxS p l := by
  unfold idxS
  cases h : l.findIdx? p with
  | none =>
    have : l.any p = false := by
      rw [List.findIdx?_eq_none_iff] at h
      rw [List.any_eq_false]; exact fun x hx => by simpa using h x hx
    rw [this]; simp
  | some i =>
    have : l.any p = true := by
      rw [List.findIdx?_eq_some_iff_getElem] at h
      obtain ⟨hk, h1, _⟩ := h
      exact List.any_eq_true.2 ⟨_, List.getElem_mem hk, h1⟩
    rw [this]; simp
theorem idxU_any (p : RX → Bool) (l : List RX) : (0 ≤ idxU p l ↔ l.any p = true) ∧ -1 ≤ idxU p l := by
  unfold idxU
  cases h : l.findIdx? p with
  | none =>
    have : l.any p = false := by
      rw [List.findIdx?_eq_none_iff] at h
      rw [List.any_eq_false]; exact fun x hx => by simpa using h x hx
    rw [this]; simp
  | some i =>
    have : l.any p = true := by
      rw [List.findIdx?_eq_some_iff_getElem] at h
      obtain ⟨hk, h1, _⟩ := h
      exact List.any_eq_true.2 ⟨_, List.getElem_mem hk, h1⟩
    rw [this]; simp
set_option maxHeartbeats 2000000 in
theorem containsS_any (g : Nat) (lb : Array Value) (p : ByteArray → Bool) (l : List ByteArray) (A : Option Addr) (c : Nat) (w : World)
    (eg : ∀ args w, (callFunc g args).run Tryd.prog w = .ok (.enter g args) w) (hp : PredS g lb p l w) (hl : l.length ≤ maxLen) (hr : 0 < l.length → ∃ b o, A = some ⟨b, o, none⟩ ∧ RowA w b o l) :
    Calls Tryd.prog 64 #[.slice A l.length c, .func (.func g) #[] lb] w fun e w' => e = .returned (.bool (l.any p)) ∧ Below w.heap.size w w' := by
  have HC := Lib.hid (indexS_any g lb p l A c w eg hp hl hr)
  obtain ⟨h1, h2⟩ := idxS_any p l
  obtain ⟨z, hz⟩ : ∃ z, idxS p l = z := ⟨_, rfl⟩
  rw [hz] at HC h1 h2
  clear hz eg hp hr
  cases ha : l.any p with
  | true =>
    have hz : 0 ≤ z := h1.2 ha
    clear h1 ha
    go_enter Tryd.func64, Tryd.ntmps64
    go_wp2_with fail
    refine HC.out.mono ?_
    rintro e w1 ⟨rfl, hb1⟩
    go_wp2_with fail
    go_ret
    exact ⟨rfl, hb1⟩
  | false =>
    have hz : z = -1 := by
      have : ¬ 0 ≤ z := fun h => by rw [h1.1 h] at ha; cases ha
      omega
    subst hz
    clear h1 h2 ha
    go_enter Tryd.func64, Tryd.ntmps64
    go_wp2_with fail
    refine HC.out.mono ?_
    rintro e w1 ⟨rfl, hb1⟩
    go_wp2_with fail
    go_ret
    exact ⟨rfl, hb1⟩
set_option maxHeartbeats 2000000 in
theorem containsU_any (g : Nat) (lb : Array Value) (p : RX → Bool) (l : List RX) (A : Option Addr) (c : Nat) (w : World)
    (eg : ∀ args w, (callFunc g args).run Tryd.prog w = .ok (.enter g args) w) (hp : PredU g lb p l w) (hl : l.length ≤ maxLen) (hr : 0 < l.length → ∃ b o, A = some ⟨b, o, none⟩ ∧ RowU w b o l) :
    Calls Tryd.prog 40 #[.slice A l.length c, .func (.func g) #[] lb] w fun e w' => e = .returned (.bool (l.any p)) ∧ Below w.heap.size w w' := by
  have HC := Lib.hid (indexU_any g lb p l A c w eg hp hl hr)
  obtain ⟨h1, h2⟩ := idxU_any p l
  obtain ⟨z, hz⟩ : ∃ z, idxU p l = z := ⟨_, rfl⟩
  rw [hz] at HC h1 h2
  clear hz eg hp hr
  cases ha : l.any p with
  | true =>
    have hz : 0 ≤ z := h1.2 ha
    clear h1 ha
    go_enter Tryd.func40, Tryd.ntmps40
    go_wp2_with fail
    refine HC.out.mono ?_
    rintro e w1 ⟨rfl, hb1⟩
    go_wp2_with fail
    go_ret
    exact ⟨rfl, hb1⟩
  | false =>
    have hz : z = -1 := by
      have : ¬ 0 ≤ z := fun h => by rw [h1.1 h] at ha; cases ha
      omega
    subst hz
    clear h1 h2 ha
    go_enter Tryd.func40, Tryd.ntmps40
    go_wp2_with fail
    refine HC.out.mono ?_
    rintro e w1 ⟨rfl, hb1⟩
    go_wp2_with fail
    go_ret
    exact ⟨rfl, hb1⟩

theorem all1_any (g : Nat) (p : Bool) (x : ByteArray) (B : Nat) (w : World) (eg : ∀ args w, (callFunc g args).run Tryd.prog w = .ok (.enter g args) w) (hc : w.cell? ⟨B, 0, none⟩ = some (.func (.func g) #[] #[]))
    (hp : Calls Tryd.prog g #[.string x] w fun e w' => e = .returned (.bool p) ∧ Below w.heap.size w w') :
    Calls Tryd.prog 65 #[.string x, .pointer (some ⟨B, 0, none⟩)] w fun e w' => e = .returned (.bool (!p)) ∧ Below w.heap.size w w' := by
  have HP := Lib.hid hp; clear hp
  go_enter Tryd.func65, Tryd.ntmps65
  go_wp2_with (go_at_fn g; refine HP.out.mono ?_; rintro e w' ⟨rfl, hb'⟩)
  go_ret
  exact ⟨rfl, hb'⟩
set_option maxHeartbeats 2000000 in
theorem all_any (g : Nat) (p : ByteArray → Bool) (l : List ByteArray) (A : Option Addr) (c : Nat) (w : World) (eg : ∀ args w, (callFunc g args).run Tryd.prog w = .ok (.enter g args) w)
    (hp : ∀ (W : World) (x : ByteArray), x ∈ l → Below w.heap.size w W → Calls Tryd.prog g #[.string x] W fun e w' => e = .returned (.bool (p x)) ∧ Below W.heap.size W w') (hl : l.length ≤ maxLen) (hr : 0 < l.length → ∃ b o, A = some ⟨b, o, none⟩ ∧ RowA w b o l) :
    Calls Tryd.prog 48 #[.func (.func g) #[] #[], .slice A l.length c] w fun e w' => e = .returned (.bool (l.all p)) ∧ Below w.heap.size w w' := by
  have hb : Below w.heap.size w (w.alloc (.cells #[.func (.func g) #[] #[]] 33)) := (Below.refl _ w).alloc (Nat.le_refl _) _
  have e1 := enters_of (P := Tryd.prog) Tryd.func65 (by kernel_rfl) rfl
  have HC := Lib.hid (containsS_any 65 #[.pointer (some ⟨w.heap.size, 0, none⟩)] (fun x => !p x) l A c (w.alloc (.cells #[.func (.func g) #[] #[]] 33)) e1
    (fun W x hx hW => all1_any g (p x) x w.heap.size W eg ((hW.cell (p := ⟨w.heap.size, 0, none⟩) (by simp)).trans (cell_of_row _ _ 0 _ _ _ (heap_alloc_new w _))) (hp W x hx (hb.trans (hW.mono hb.size)))) hl (fun hn => by obtain ⟨b, o, e, h⟩ := hr hn; exact ⟨b, o, e, h.below hb⟩))
  have hall : l.all p = !(l.any fun x => !p x) := by rw [List.not_any_eq_all_not]; simp
  have HA := Lib.hid hall
  have HB := Lib.hid hb
  clear hp hr hall hb e1
  go_enter Tryd.func48, Tryd.ntmps48
  go_wp2_with fail
  refine HC.out.mono ?_
  rintro e w1 ⟨rfl, hb1⟩
  go_wp2_with fail
  go_ret
  exact ⟨by rw [HA.out]; rfl, HB.out.trans (hb1.mono HB.out.size)⟩
end Go.Proofs.YthkbpophckjdnaaDoor
