/-
  The contract of the document's own answer: fits. · The contract of the document's own answer: Match.
-/
import Derived.Test.YtedcaodbcognjaaGreatDoorRefGlob
import Derived.OwnWalk
import Derived.RegionTactic
import Derived.BigRegion
import Derived.IntWalk
import Derived.Test.YtedcaodbcognjaaGreatDoorMatch
import Derived.Deep.RegionHeld3
namespace Go.Proofs.YtedcaodbcognjaaGreatDoor
open Go Go.RowKit Go.Shelf Go.Proofs
attribute [local go_sem] Oper.semAt_some

/-- A row of m bools in block g; the first lo of them are f's. -/
def RowB (W : World) (g m : Nat) (f : Nat → Bool) (lo : Nat) : Prop :=
  ∃ cs : Array Value, W.heap[g]? = some (.cells cs 4 (0, 0)) ∧ cs.size = m ∧ (∀ j, j < m → ∃ b, cs[j]? = some (.bool b)) ∧ ∀ j, j < lo → cs[j]? = some (.bool (f j))
theorem RowB.cell {W : World} {g m lo : Nat} {f : Nat → Bool} (h : RowB W g m f lo) (j : Nat) (hj : j < lo) : W.cell? ⟨g, j, none⟩ = some (.bool (f j)) := by
  obtain ⟨cs, h1, _, _, h4⟩ := h
  simp [World.cell?, h1, h4 j hj]
theorem RowB.some {W : World} {g m lo : Nat} {f : Nat → Bool} (h : RowB W g m f lo) (j : Nat) (hj : j < m) : ∃ b, W.cell? ⟨g, j, none⟩ = some (.bool b) := by
  obtain ⟨cs, h1, _, h3, _⟩ := h
  obtain ⟨b, hb⟩ := h3 j hj
  exact ⟨b, by simp [World.cell?, h1, hb]⟩
theorem RowB.frozen {W : World} {g m lo : Nat} {f : Nat → Bool} (h : RowB W g m f lo) (j : Nat) : W.frozen? ⟨g, j, none⟩ = false := by
  obtain ⟨cs, h1, _⟩ := h
  simp [World.frozen?, h1]
theorem RowB.lt {W : World} {g m lo : Nat} {f : Nat → Bool} (h : RowB W g m f lo) : g < W.heap.size := by
  obtain ⟨cs, h1, _⟩ := h
  exact (Array.getElem?_eq_some_iff.1 h1).1
theorem RowB.drew {W : World} {g m lo : Nat} {f : Nat → Bool} (h : RowB W g m f lo) : RowB W.drew g m f lo := h
theorem RowB.put {W : World} {g m k : Nat} {f : Nat → Bool} (h : RowB W g m f k) (hk : k < m) (b : Bool) (hb : b = f k) : RowB (W.setCell ⟨g, k, none⟩ (.bool b)) g m f (k + 1) := by
  obtain ⟨cs, h1, h2, h3, h4⟩ := h
  refine ⟨cs.setIfInBounds k (.bool b), ?_, by simp [h2], fun j hj => ?_, fun j hj => ?_⟩
  · obtain ⟨hlt, hk'⟩ := Array.getElem?_eq_some_iff.1 h1
    show (W.heap.modify g _)[g]? = _
    rw [Array.getElem?_eq_getElem (by rw [Array.size_modify]; exact hlt), Array.getElem_modify_self, hk']
    rfl
  · by_cases e : k = j
    · subst e; exact ⟨b, by simp [h2, hk]⟩
    · rw [Array.getElem?_setIfInBounds_ne e]; exact h3 j hj
  · by_cases e : k = j
    · subst e; simp [h2, hk, hb]
    · rw [Array.getElem?_setIfInBounds_ne e]; exact h4 j (by omega)
theorem RowB.other {W : World} {g m lo : Nat} {f : Nat → Bool} (h : RowB W g m f lo) {g' j : Nat} (hne : g ≠ g') (v : Value) : RowB (W.setCell ⟨g', j, none⟩ v) g m f lo := by
  obtain ⟨cs, h1, h2⟩ := h
  exact ⟨cs, (heap_setCell_other W ⟨g', j, none⟩ g v hne).trans h1, h2⟩
theorem RowB.kept {W W' : World} {g m lo : Nat} {f : Nat → Bool} (h : RowB W g m f lo) (hg : W.grownBy W' none) : RowB W' g m f lo := by
  have hlt := h.lt
  obtain ⟨cs, h1, h2⟩ := h
  exact ⟨cs, (hg.block g hlt (by simp)).trans h1, h2⟩
theorem RowB.below {n : Nat} {W W' : World} {g m lo : Nat} {f : Nat → Bool} (h : RowB W g m f lo) (hb : Below n W W') (hg : g < n) : RowB W' g m f lo := by
  obtain ⟨cs, h1, h2⟩ := h
  exact ⟨cs, (hb.block g hg).trans h1, h2⟩
theorem bool_info : (Tryz.prog.info? 4).map (fun i => (i.zero, i.size, i.bytes)) = some (some (.bool false), 1, 1) := by kernel_rfl
theorem rowB_made {W : World} {b g m : Nat} (h : W.ownsRow b 4 1 (.slice (some ⟨g, 0, none⟩) m m) m (madeCells #[.bool false] (m * 1)).toList) : RowB W g m (fun _ => false) m ∧ b ≤ g := by
  rcases h.2 with ⟨h0, _⟩ | ⟨g', cap, cur, hv, hbg, hh, hc1, _, hc2, htake⟩
  · cases h0
  · cases hv
    have hcell : ∀ j, j < m → cur[j]? = some (.bool false) := fun j hj => by
      have h1 : cur.toList[j]? = (madeCells #[Value.bool false] (m * 1)).toList[j]? := by
        rw [← htake, List.getElem?_take]
        have : j < m * 1 := by omega
        simp [hj]
      rw [Array.getElem?_toList] at h1
      rw [h1]
      simp [madeCells, hj]
      rw [Nat.mod_one]; rfl
    exact ⟨⟨cur, hh, by omega, fun j hj => ⟨false, hcell j hj⟩, fun j hj => hcell j hj⟩, hbg⟩
theorem RowB.again {W : World} {g m lo lo' : Nat} {f f' : Nat → Bool} (h : RowB W g m f lo) (hl : lo' ≤ lo) (he : ∀ j, j < lo' → f j = f' j) : RowB W g m f' lo' := by
  obtain ⟨cs, h1, h2, h3, h4⟩ := h
  exact ⟨cs, h1, h2, h3, fun j hj => by rw [← he j hj]; exact h4 j (by omega)⟩
theorem RowB.first {W : World} {g m : Nat} {f : Nat → Bool} (h : RowB W g m (fun _ => false) m) (hm : 0 < m) (h0 : f 0 = true) (hf : ∀ j, 0 < j → j < m → f j = false) : RowB (W.setCell ⟨g, 0, none⟩ (.bool true)) g m f m := by
  obtain ⟨cs, h1, h2, h3, h4⟩ := h
  refine ⟨cs.setIfInBounds 0 (.bool true), ?_, by simp [h2], fun j hj => ?_, fun j hj => ?_⟩
  · obtain ⟨hlt, hk'⟩ := Array.getElem?_eq_some_iff.1 h1
    show (W.heap.modify g _)[g]? = _
    rw [Array.getElem?_eq_getElem (by rw [Array.size_modify]; exact hlt), Array.getElem_modify_self, hk']
    rfl
  · by_cases e : 0 = j
    · subst e; exact ⟨true, by simp [h2, hm]⟩
    · rw [Array.getElem?_setIfInBounds_ne e]; exact h3 j hj
  · by_cases e : 0 = j
    · subst e; simp [h2, hm, h0]
    · rw [Array.getElem?_setIfInBounds_ne e, h4 j hj, hf j (by omega) hj]
theorem below_set {n : Nat} {W W' : World} (h : Below n W W') {g j : Nat} (hg : n ≤ g) (v : Value) : Below n W (W'.setCell ⟨g, j, none⟩ v) := h.setCell (p := ⟨g, j, none⟩) hg v

def fitM : UInt8 → Bool := fun c => c == 42
def fitO : UInt8 → UInt8 → Bool := fun c b => c == 63 || c == b

set_option maxRecDepth 100000 in
set_option maxHeartbeats 8000000 in
theorem reffits_any (p s : ByteArray) (w : World) (hp : p.size ≤ 1000) (hs : s.size ≤ 1000) :
    Calls Tryz.prog 63 #[.string p, .string s] w fun e w' => e = .returned (.bool (fitsB p.data.toList s.data.toList)) ∧ Below w.heap.size w w' := by
  obtain ⟨i0, hi, hz0, hz1, hz2⟩ := info_parts bool_info
  have hpl : p.data.toList.length = p.size := Array.length_toList
  have hsl : s.data.toList.length = s.size := Array.length_toList
  obtain ⟨F, hF⟩ : ∃ F, frontsB fitM fitO p.data.toList s.data.toList = F := ⟨_, rfl⟩
  have f0 : ∀ k, k ≤ s.size → F 0 k = decide (k = 0) := fun k hk => by rw [← hF]; exact fronts_none _ _ _ _ k (by omega)
  have fall : F p.size s.size = fitsB p.data.toList s.data.toList := by rw [← hF, ← hpl, ← hsl]; exact fronts_all _ _ _ _
  have hstep : ∀ i b, p.data.toList[i]? = some b → (fitM b = true → F (i + 1) 0 = F i 0 ∧ ∀ k, k < s.size → F (i + 1) (k + 1) = (F i (k + 1) || F (i + 1) k)) ∧
      (fitM b = false → F (i + 1) 0 = false ∧ ∀ k x, s.data.toList[k]? = some x → F (i + 1) (k + 1) = (F i k && fitO b x)) := fun i b hb => by
    rw [← hF]
    exact ⟨fun h => ⟨fronts_many_zero _ _ _ _ i b hb h, fun k hk => fronts_many _ _ _ _ i k b hb h (by omega)⟩, fun h => ⟨fronts_one_zero _ _ _ _ i b hb h, fun k x hx => fronts_one _ _ _ _ i k b x hb h hx⟩⟩
  rw [← fall]
  have F0 := Lib.hid f0; clear f0
  have HSTEP := Lib.hid hstep; clear hstep
  clear hF fall
  go_enter Tryz.func63, Tryz.ntmps63
  go_wp2_with (refine wpList_make_full _ rfl _ _ 72 rfl w.heap.size 4 i0 (.bool false) 1 Tryz.underlying72 hi hz0 hz1 .i64 .i64 _ _ (s.size + 1) rfl rfl (by go_num) (by go_num) (by rw [hz2]; omega) (by unfold maxLen; omega) (Nat.le_refl _) ?_; intro w1 hown hgrow; obtain ⟨hrow, hge⟩ := rowB_made hown; have hcell := hrow.cell 0 (by omega); have hfr := hrow.frozen 0)
  have hfirst := (hrow.first (f := F 0) (by omega) (by rw [F0.out 0 (by omega)]; rfl) (fun j h1 h2 => by rw [F0.out j (by omega)]; exact decide_eq_false (by omega)))
  have hb1 : Below w.heap.size w (w1.setCell ⟨w.heap.size, 0, none⟩ (.bool true)) := below_set ((Below.refl _ w).grown hgrow (Nat.le_refl _) (fun j ej => by cases ej)) (Nat.le_refl _) _
  clear hown hgrow hrow hge hcell hfr
  go_loopw [5, 6] (fun v i wr => ∃ (g k : Nat), k ≤ p.size ∧ v = .slice (some ⟨g, 0, none⟩) (s.size + 1) (s.size + 1) ∧ i = .int .i64 k ∧ w.heap.size ≤ g ∧ RowB wr g (s.size + 1) (F k) (s.size + 1) ∧ Below w.heap.size w wr) (fun _ i _ => p.size - (intOf i).toNat)
  case atStart => exact ⟨w.heap.size, 0, Nat.zero_le _, rfl, rfl, Nat.le_refl _, hfirst, hb1⟩
  case round =>
    obtain ⟨g, i, hik, rfl, rfl, hg, hrow, hbr⟩ := hrel
    have hW : w.heap.size ≤ wr.heap.size := hbr.size
    by_cases hlt : i < p.size
    · obtain ⟨b, hb⟩ : ∃ b, p[i] = b := ⟨_, rfl⟩
      have hb? : p.data.toList[i]? = some b := by rw [List.getElem?_eq_getElem (by omega), ← hb]; rfl
      obtain ⟨hmany, hone⟩ := HSTEP.out i b hb?
      have HB? := Lib.hid hb?; clear hb?
      have HM := Lib.hid hmany; clear hmany
      have HO := Lib.hid hone; clear hone
      go_wp2_with (refine wpList_make_full _ rfl _ _ 72 rfl w.heap.size 4 i0 (.bool false) 1 Tryz.underlying72 hi hz0 hz1 .i64 .i64 _ _ (s.size + 1) rfl rfl (by go_num) (by go_num) (by rw [hz2]; omega) (by unfold maxLen; omega) hW ?_; intro w2 hown hgrow)
      obtain ⟨hnow0, hge⟩ := rowB_made hown
      have hwas := hrow.kept hgrow
      have hne : g ≠ wr.heap.size := by have := hrow.lt; omega
      have hnow := hnow0.again (f' := F (i + 1)) (Nat.zero_le _) (fun j h => by omega)
      have hb2 : Below w.heap.size w w2 := hbr.grown hgrow hW (fun j ej => by cases ej)
      obtain ⟨h, hh⟩ : ∃ h, wr.heap.size = h := ⟨_, rfl⟩
      rw [hh] at hnow hne hge ⊢
      clear hown hgrow hnow0 hrow hbr
      go_loopw [8] (fun k wq => ∃ (m : Nat), m ≤ s.size + 1 ∧ k = .int .i64 m ∧ RowB wq g (s.size + 1) (F i) (s.size + 1) ∧ RowB wq h (s.size + 1) (F (i + 1)) m ∧ Below w.heap.size w wq) (fun k _ => s.size + 1 - (intOf k).toNat)
      case atStart => exact ⟨0, Nat.zero_le _, rfl, hwas, hnow, hb2⟩
      case round =>
        obtain ⟨m, hm, rfl, hw_, hn_, hbq⟩ := hrel
        by_cases hml : m ≤ s.size
        · have cw := hw_.cell m (by omega)
          obtain ⟨old, co⟩ := hn_.some m (by omega)
          have fr := hn_.frozen m
          by_cases h42 : b = 42
          · have hv : (b.toNat : Int) = 42 := by rw [h42]; rfl
            obtain ⟨st0, st⟩ := HM.out (by rw [h42]; rfl)
            cases m with
            | zero =>
              obtain ⟨c, hc⟩ : ∃ c, F i 0 = c := ⟨_, rfl⟩
              rw [hc] at cw st0
              have ST := Lib.hid st0; clear st0 st hc h42
              cases c <;>
              · go_wp2_with fail
                go_roundw
                case rel => exact ⟨0 + 1, by omega, by go_num, (hw_).other hne _, (hn_).put (by omega) _ (ST.out.symm), below_set (hbq) hge _⟩
                case measure => simp [intOf] <;> omega
            | succ j =>
              have cn := hn_.cell j (by omega)
              have st2 := st j (by omega)
              obtain ⟨c, hc⟩ : ∃ c, F i (j + 1) = c := ⟨_, rfl⟩
              obtain ⟨d, hd⟩ : ∃ d, F (i + 1) j = d := ⟨_, rfl⟩
              rw [hc] at cw st2
              rw [hd] at cn st2
              have ST := Lib.hid st2; clear st2 st0 st hc hd h42
              cases c <;> cases d <;>
              · go_wp2_with fail
                go_roundw
                case rel => exact ⟨j + 1 + 1, by omega, by go_num, (hw_).other hne _, (hn_).put (by omega) _ (ST.out.symm), below_set (hbq) hge _⟩
                case measure => simp [intOf] <;> omega
          · have hv : ¬ ((b.toNat : Int) = 42) := fun e => h42 (by rw [← UInt8.toNat_inj]; show _ = 42; omega)
            obtain ⟨st0, st⟩ := HO.out (by unfold fitM; rw [beq_eq_false_iff_ne]; exact h42)
            cases m with
            | zero =>
              have ST := Lib.hid st0; clear st0 st h42
              go_wp2_with fail
              go_region
              all_goals (try go_wp2_with fail)
              go_roundw
              case rel => exact ⟨0 + 1, by omega, by go_num, (hw_.drew).other hne _, (hn_.drew).put (by omega) _ (ST.out.symm), below_set (hbq.drew) hge _⟩
              case measure => simp [intOf] <;> omega
            | succ j =>
              have cwj := hw_.cell j (by omega)
              obtain ⟨x, hx⟩ : ∃ x, s[j] = x := ⟨_, rfl⟩
              have hx? : s.data.toList[j]? = some x := by rw [List.getElem?_eq_getElem (by omega), ← hx]; rfl
              have st2 := st j x hx?
              obtain ⟨c, hc⟩ : ∃ c, F i j = c := ⟨_, rfl⟩
              rw [hc] at cwj st2
              by_cases h63 : b = 63
              · have hv63 : (b.toNat : Int) = 63 := by rw [h63]; rfl
                have ho : fitO b x = true := by unfold fitO; rw [h63]; rfl
                rw [ho] at st2
                have ST := Lib.hid st2; clear st2 st0 st hc h42 h63 ho hx?
                cases c <;>
                · go_wp2_with fail
                  have lj0 : (0 : Int) ≤ (j : Int) := by omega
                  have lj1 : (j : Int) < (s.size : Int) + 1 := by omega
                  have lj2 : (j : Int) < (s.size : Int) := by omega
                  have lj3 : (i : Int) < (p.size : Int) := by omega
                  have lj4 : (0 : Int) ≤ (i : Int) := by omega
                  have lj5 : (0 : Int) ≤ (j : Int) + 1 := by omega
                  have lj6 : (j : Int) + 1 < (s.size : Int) + 1 := by omega
                  have wj : IntKind.i64.wrap (j : Int) = (j : Int) := IntWalk.i64_in _ (by omega)
                  go_region
                  all_goals (try go_wp2_with fail)
                  go_roundw
                  case rel => exact ⟨j + 1 + 1, by omega, by go_num, (hw_.drew).other hne _, (hn_.drew).put (by omega) _ (ST.out.symm), below_set (hbq.drew) hge _⟩
                  case measure => simp [intOf] <;> omega
              · have t63 : ((b.toNat : Int) == 63) = false := by rw [beq_eq_false_iff_ne]; exact fun e => h63 (by rw [← UInt8.toNat_inj]; show _ = 63; omega)
                by_cases hbx : b = x
                · subst hbx
                  have ho : fitO b b = true := by unfold fitO; simp
                  have tbx : ((b.toNat : Int) == (b.toNat : Int)) = true := beq_self_eq_true _
                  rw [ho] at st2
                  have ST := Lib.hid st2; clear st2 st0 st hc h42 h63 ho hx?
                  cases c <;>
                  · go_wp2_with fail
                    have lj0 : (0 : Int) ≤ (j : Int) := by omega
                    have lj1 : (j : Int) < (s.size : Int) + 1 := by omega
                    have lj2 : (j : Int) < (s.size : Int) := by omega
                    have lj3 : (i : Int) < (p.size : Int) := by omega
                    have lj4 : (0 : Int) ≤ (i : Int) := by omega
                    have lj5 : (0 : Int) ≤ (j : Int) + 1 := by omega
                    have lj6 : (j : Int) + 1 < (s.size : Int) + 1 := by omega
                    have wj : IntKind.i64.wrap (j : Int) = (j : Int) := IntWalk.i64_in _ (by omega)
                    go_region
                    all_goals (try go_wp2_with fail)
                    go_roundw
                    case rel => exact ⟨j + 1 + 1, by omega, by go_num, (hw_.drew).other hne _, (hn_.drew).put (by omega) _ (ST.out.symm), below_set (hbq.drew) hge _⟩
                    case measure => simp [intOf] <;> omega
                · have ho : fitO b x = false := by unfold fitO; rw [beq_eq_false_iff_ne.2 h63, beq_eq_false_iff_ne.2 hbx]; rfl
                  have tbx : ((b.toNat : Int) == (x.toNat : Int)) = false := by rw [beq_eq_false_iff_ne]; exact fun e => hbx (by rw [← UInt8.toNat_inj]; omega)
                  rw [ho] at st2
                  have ST := Lib.hid st2; clear st2 st0 st hc h42 h63 ho hx? hbx
                  cases c <;>
                  · go_wp2_with fail
                    have lj0 : (0 : Int) ≤ (j : Int) := by omega
                    have lj1 : (j : Int) < (s.size : Int) + 1 := by omega
                    have lj2 : (j : Int) < (s.size : Int) := by omega
                    have lj3 : (i : Int) < (p.size : Int) := by omega
                    have lj4 : (0 : Int) ≤ (i : Int) := by omega
                    have lj5 : (0 : Int) ≤ (j : Int) + 1 := by omega
                    have lj6 : (j : Int) + 1 < (s.size : Int) + 1 := by omega
                    have wj : IntKind.i64.wrap (j : Int) = (j : Int) := IntWalk.i64_in _ (by omega)
                    go_region
                    all_goals (try go_wp2_with fail)
                    go_roundw
                    case rel => exact ⟨j + 1 + 1, by omega, by go_num, (hw_.drew).other hne _, (hn_.drew).put (by omega) _ (ST.out.symm), below_set (hbq.drew) hge _⟩
                    case measure => simp [intOf] <;> omega
        · have hm2 : m = s.size + 1 := by omega
          subst hm2
          go_wp2_with fail
          go_roundw
          case rel => exact ⟨h, i + 1, by omega, rfl, by go_num, hge, hn_, hbq⟩
          case measure => simp [intOf] <;> omega
    · have hi2 : i = p.size := by omega
      subst hi2
      have cl := hrow.cell s.size (by omega)
      go_wp2_with fail
      go_ret
      exact ⟨rfl, hbr⟩
end Go.Proofs.YtedcaodbcognjaaGreatDoor
namespace Go.Proofs.YtedcaodbcognjaaGreatDoor
open Go Go.RowKit Go.Shelf Go.Proofs
attribute [local go_sem] Oper.semAt_some

def matM : Bs → Bool := fun p => p == [42, 42]
theorem matM_eq (p : Bs) : matM p = ((mkB p).toList == [42, 42]) := by rw [ByteArray.toList_eq, mkB_data]; rfl

theorem cell_other {W : World} {g j h k : Nat} {v : Value} (hne : g ≠ h) : (W.setCell ⟨h, k, none⟩ v).cell? ⟨g, j, none⟩ = W.cell? ⟨g, j, none⟩ := by
  simp only [World.cell?, heap_setCell_other W ⟨h, k, none⟩ g v hne]
theorem reffits_to (x y : ByteArray) (p q : Bs) (r : Bool) (hx : mkB p = x) (hy : mkB q = y) (hp : p.length ≤ 1000) (hq : q.length ≤ 1000) (hr : fitsB p q = r) (W : World) :
    Calls Tryz.prog 63 #[.string x, .string y] W fun e w' => e = .returned (.bool r) ∧ Below W.heap.size W w' := by
  subst hx hy hr
  have := reffits_any (mkB p) (mkB q) W (by rw [mkB_size]; omega) (by rw [mkB_size]; omega)
  rwa [mkB_data, mkB_data] at this

set_option maxHeartbeats 1000000 in
theorem refmatch_glob (g s : ByteArray) (w : World) (hg : g.size ≤ 1000000) (h1 : globB g.data.toList = false) :
    Calls Tryz.prog 36 #[.string g, .string s] w fun e w' => e = .returned (.bool (matchB g.data.toList s.data.toList)) ∧ Below w.heap.size w w' := by
  have hr : matchB g.data.toList s.data.toList = false := by unfold matchB; rw [h1]; rfl
  have HR := Lib.hid hr; clear hr
  have H1 := Lib.hid h1; clear h1
  go_enter Tryz.func36, Tryz.ntmps36
  go_wp2_with fail
  refine (refglob_any g _ (by omega)).mono ?_
  rintro e w1 ⟨rfl, hb1⟩
  rw [H1.out]
  go_wp2_with fail
  go_ret
  exact ⟨ret_bool HR.out.symm, hb1⟩
set_option maxHeartbeats 1000000 in
theorem refmatch_right (g s : ByteArray) (w : World) (hg : g.size ≤ 1000000) (hs : s.size ≤ 1000000) (h1 : globB g.data.toList = true) (h2 : rightB s.data.toList = false) :
    Calls Tryz.prog 36 #[.string g, .string s] w fun e w' => e = .returned (.bool (matchB g.data.toList s.data.toList)) ∧ Below w.heap.size w w' := by
  have hr : matchB g.data.toList s.data.toList = false := by unfold matchB; rw [h1, h2]; rfl
  have HR := Lib.hid hr; clear hr
  have H1 := Lib.hid h1; clear h1
  have H2 := Lib.hid h2; clear h2
  go_enter Tryz.func36, Tryz.ntmps36
  go_wp2_with fail
  refine (refglob_any g _ (by omega)).mono ?_
  rintro e w1 ⟨rfl, hb1⟩
  rw [H1.out]
  go_wp2_with fail
  refine (refright_any s _ (by omega)).mono ?_
  rintro e w2 ⟨rfl, hb2⟩
  rw [H2.out]
  have hb3 := hb1.trans (hb2.mono hb1.size)
  clear hb1 hb2
  go_wp2_with fail
  go_ret
  exact ⟨ret_bool HR.out.symm, hb3⟩

set_option maxRecDepth 100000 in
set_option maxHeartbeats 8000000 in
theorem refmatch_both (g s : ByteArray) (w : World) (hg : g.size ≤ 1000000) (hs : s.size ≤ 1000000) (h1 : globB g.data.toList = true) (h2 : rightB s.data.toList = true) :
    Calls Tryz.prog 36 #[.string g, .string s] w fun e w' => e = .returned (.bool (matchB g.data.toList s.data.toList)) ∧ Below w.heap.size w w' := by
  obtain ⟨i0, hi, hz0, hz1, hz2⟩ := info_parts bool_info
  have lg := partsB_len h1
  have ls := partsB_len h2
  have eg : g.data.toList.length = g.size := by rw [Array.length_toList]; rfl
  have es : s.data.toList.length = s.size := by rw [Array.length_toList]; rfl
  have np := splitL_length 47 g.data.toList
  have nl := splitL_length 47 s.data.toList
  have op : ∀ x ∈ splitL 47 g.data.toList, x.length ≤ 100 := fun x hx => Nat.le_trans (piece_len 47 g x hx) lg
  have ol : ∀ x ∈ splitL 47 s.data.toList, x.length ≤ 100 := fun x hx => Nat.le_trans (piece_len 47 s x hx) ls
  have nep : (splitL 47 g.data.toList).length ≠ 0 := fun e => splitL_ne 47 g.data.toList (List.eq_nil_of_length_eq_zero e)
  have nel : (splitL 47 s.data.toList).length ≠ 0 := fun e => splitL_ne 47 s.data.toList (List.eq_nil_of_length_eq_zero e)
  obtain ⟨P, hP⟩ : ∃ P, splitL 47 g.data.toList = P := ⟨_, rfl⟩
  obtain ⟨L, hL⟩ : ∃ L, splitL 47 s.data.toList = L := ⟨_, rfl⟩
  have hr : matchB g.data.toList s.data.toList = partedB matM fitsB P L := by unfold matchB; rw [h1, h2, hP, hL]; rfl
  rw [hr]
  rw [hP] at np op nep
  rw [hL] at nl ol nel
  obtain ⟨n, hn⟩ : ∃ n, P.length = n := ⟨_, rfl⟩
  obtain ⟨m, hm⟩ : ∃ m, L.length = m := ⟨_, rfl⟩
  obtain ⟨F, hF⟩ : ∃ F, frontsB matM fitsB P L = F := ⟨_, rfl⟩
  have f0 : ∀ k, k ≤ m → F 0 k = decide (k = 0) := fun k hk => by rw [← hF]; exact fronts_none _ _ _ _ k (by omega)
  have fall : F n m = partedB matM fitsB P L := by rw [← hF, ← hn, ← hm]; exact fronts_all _ _ _ _
  have hstep : ∀ i b, P[i]? = some b → (matM b = true → F (i + 1) 0 = F i 0 ∧ ∀ k, k < m → F (i + 1) (k + 1) = (F i (k + 1) || F (i + 1) k)) ∧
      (matM b = false → F (i + 1) 0 = false ∧ ∀ k x, L[k]? = some x → F (i + 1) (k + 1) = (F i k && fitsB b x)) := fun i b hb => by
    rw [← hF]
    exact ⟨fun h => ⟨fronts_many_zero _ _ _ _ i b hb h, fun k hk => fronts_many _ _ _ _ i k b hb h (by omega)⟩, fun h => ⟨fronts_one_zero _ _ _ _ i b hb h, fun k x hx => fronts_one _ _ _ _ i k b x hb h hx⟩⟩
  rw [← fall]
  have gP : ∀ i, i < n → ∃ b, P[i]? = some b ∧ b.length ≤ 100 := fun i h => ⟨P[i]'(by omega), List.getElem?_eq_getElem (by omega), op _ (List.getElem_mem _)⟩
  have gL : ∀ i, i < m → ∃ b, L[i]? = some b ∧ b.length ≤ 100 := fun i h => ⟨L[i]'(by omega), List.getElem?_eq_getElem (by omega), ol _ (List.getElem_mem _)⟩
  have n1 : n ≤ 101 := by omega
  have m1 : m ≤ 101 := by omega
  have n0 : n ≠ 0 := by omega
  have m0 : m ≠ 0 := by omega
  have F0 := Lib.hid f0; clear f0
  have HSTEP := Lib.hid hstep; clear hstep
  have GP := Lib.hid gP; clear gP
  have GL := Lib.hid gL; clear gL
  have H1 := Lib.hid h1; clear h1
  have H2 := Lib.hid h2; clear h2
  have HP := Lib.hid hP; clear hP
  have HL := Lib.hid hL; clear hL
  have HN := Lib.hid hn; clear hn
  have HM := Lib.hid hm; clear hm
  clear hF fall hr op ol np nl eg es nep nel lg ls
  go_enter Tryz.func36, Tryz.ntmps36
  go_wp2_with fail
  refine (refglob_any g _ (by omega)).mono ?_
  rintro e w1 ⟨rfl, hb1⟩
  rw [H1.out]
  go_wp2_with fail
  refine (refright_any s _ (by omega)).mono ?_
  rintro e w2 ⟨rfl, hb2⟩
  rw [H2.out]
  have hb3 := hb1.trans (hb2.mono hb1.size)
  clear hb1 hb2
  go_wp2_with fail
  refine (refsplit_any g 47 _ (by omega)).mono ?_
  rintro e w3 ⟨v, rfl, hrow, hb4⟩
  rw [HP.out, HN.out] at hrow
  obtain ⟨gp, cp, rfl, rp, _, kp⟩ := names_row hrow n0
  have cp1 : n ≤ cp ∧ cp ≤ 9223372036854775807 := by obtain ⟨_, _, h, h1, h2⟩ := ownsRow_slice hrow; cases h; exact ⟨h1, h2⟩
  have hb5 := hb3.trans (hb4.mono hb3.size)
  clear hb3 hb4 hrow
  go_wp2_with fail
  refine (refsplit_any s 47 _ (by omega)).mono ?_
  rintro e w4 ⟨v, rfl, hrow, hb6⟩
  rw [HL.out, HM.out] at hrow
  obtain ⟨gl, cl, rfl, rl, _, kl⟩ := names_row hrow m0
  have cl1 : m ≤ cl ∧ cl ≤ 9223372036854775807 := by obtain ⟨_, _, h, h1, h2⟩ := ownsRow_slice hrow; cases h; exact ⟨h1, h2⟩
  have hb7 := hb5.trans (hb6.mono hb5.size)
  have kp4 : gp < w4.heap.size := Nat.lt_of_lt_of_le kp hb6.size
  have rp4 := rp.below hb6 kp
  have RP := Lib.hid rp4; clear rp4 rp kp
  have RL := Lib.hid rl; clear rl
  clear hb5 hb6 hrow
  go_wp2_with (refine wpList_make_full _ rfl _ _ 72 rfl w4.heap.size 4 i0 (.bool false) 1 Tryz.underlying72 hi hz0 hz1 .i64 .i64 _ _ (m + 1) rfl rfl (by go_num) (by go_num) (by rw [hz2]; omega) (by unfold maxLen; omega) (Nat.le_refl _) ?_; intro w5 hown hgrow; obtain ⟨hrow, hge⟩ := rowB_made hown; have hcell := hrow.cell 0 (by omega); have hfr := hrow.frozen 0)
  have hfirst := (hrow.first (f := F 0) (by omega) (by rw [F0.out 0 (by omega)]; rfl) (fun j h1 h2 => by rw [F0.out j (by omega)]; exact decide_eq_false (by omega)))
  have hb1 : Below w4.heap.size w4 (w5.setCell ⟨w4.heap.size, 0, none⟩ (.bool true)) := below_set ((Below.refl _ w4).grown hgrow (Nat.le_refl _) (fun j ej => by cases ej)) (Nat.le_refl _) _
  clear hown hgrow hrow hge hcell hfr
  go_loopw [7, 8] (fun v i wr => ∃ (g k : Nat), k ≤ n ∧ v = .slice (some ⟨g, 0, none⟩) (m + 1) (m + 1) ∧ i = .int .i64 k ∧ w4.heap.size ≤ g ∧ RowB wr g (m + 1) (F k) (m + 1) ∧ Below w4.heap.size w4 wr) (fun _ i _ => n - (intOf i).toNat)
  case atStart => exact ⟨w4.heap.size, 0, Nat.zero_le _, rfl, rfl, Nat.le_refl _, hfirst, hb1⟩
  case round =>
    obtain ⟨g, i, hik, rfl, rfl, hg, hrow, hbr⟩ := hrel
    have hW : w4.heap.size ≤ wr.heap.size := hbr.size
    by_cases hlt : i < n
    · obtain ⟨b, hb?, bl⟩ := GP.out i hlt
      obtain ⟨hmany, hone⟩ := HSTEP.out i b hb?
      have cpi := RP.out i b hb?
      have heq := matM_eq b
      obtain ⟨x, hx⟩ : ∃ x, mkB b = x := ⟨_, rfl⟩
      rw [hx] at cpi heq
      have HX := Lib.hid hx; clear hx
      have HB? := Lib.hid hb?; clear hb?
      have HMA := Lib.hid hmany; clear hmany
      have HO := Lib.hid hone; clear hone
      have HEQ := Lib.hid heq; clear heq
      have CPI := Lib.hid cpi; clear cpi
      go_wp2_with (refine wpList_make_full _ rfl _ _ 72 rfl w4.heap.size 4 i0 (.bool false) 1 Tryz.underlying72 hi hz0 hz1 .i64 .i64 _ _ (m + 1) rfl rfl (by go_num) (by go_num) (by rw [hz2]; omega) (by unfold maxLen; omega) hW ?_; intro w6 hown hgrow)
      obtain ⟨hnow0, hge⟩ := rowB_made hown
      have hwas := hrow.kept hgrow
      have hne : g ≠ wr.heap.size := by have := hrow.lt; omega
      have hnow := hnow0.again (f' := F (i + 1)) (Nat.zero_le _) (fun j h => by omega)
      have hb2 : Below w4.heap.size w4 w6 := hbr.grown hgrow hW (fun j ej => by cases ej)
      obtain ⟨h, hh⟩ : ∃ h, wr.heap.size = h := ⟨_, rfl⟩
      rw [hh] at hnow hne hge ⊢
      clear hown hgrow hnow0 hrow hbr hh
      go_loopw [10] (fun k wq => ∃ (q : Nat), q ≤ m + 1 ∧ k = .int .i64 q ∧ RowB wq g (m + 1) (F i) (m + 1) ∧ RowB wq h (m + 1) (F (i + 1)) q ∧ Below w4.heap.size w4 wq) (fun k _ => m + 1 - (intOf k).toNat)
      case atStart => exact ⟨0, Nat.zero_le _, rfl, hwas, hnow, hb2⟩
      case round =>
        obtain ⟨q, hq, rfl, hw_, hn_, hbq⟩ := hrel
        have cpi : wr.cell? ⟨gp, i, none⟩ = some (.string x) := (hbq.cell (p := ⟨gp, i, none⟩) kp4).trans CPI.out
        by_cases hml : q ≤ m
        · have cw := hw_.cell q (by omega)
          obtain ⟨old, co⟩ := hn_.some q (by omega)
          have fr := hn_.frozen q
          cases h42 : matM b with
          | true =>
            obtain ⟨st0, st⟩ := HMA.out h42
            have hv : (x.toList == [42, 42]) = true := by rw [← HEQ.out]; exact h42
            cases q with
            | zero =>
              obtain ⟨c, hc⟩ : ∃ c, F i 0 = c := ⟨_, rfl⟩
              rw [hc] at cw st0
              have ST := Lib.hid st0; clear st0 st hc h42
              cases c <;>
              · go_wp2_with fail
                go_roundw
                case rel => exact ⟨0 + 1, by omega, by go_num, (hw_).other hne _, (hn_).put (by omega) _ (ST.out.symm), below_set (hbq) hge _⟩
                case measure => simp [intOf] <;> omega
            | succ j =>
              have cn := hn_.cell j (by omega)
              have st2 := st j (by omega)
              obtain ⟨c, hc⟩ : ∃ c, F i (j + 1) = c := ⟨_, rfl⟩
              obtain ⟨d, hd⟩ : ∃ d, F (i + 1) j = d := ⟨_, rfl⟩
              rw [hc] at cw st2
              rw [hd] at cn st2
              have ST := Lib.hid st2; clear st2 st0 st hc hd h42
              cases c <;> cases d <;>
              · go_wp2_with fail
                go_roundw
                case rel => exact ⟨j + 1 + 1, by omega, by go_num, (hw_).other hne _, (hn_).put (by omega) _ (ST.out.symm), below_set (hbq) hge _⟩
                case measure => simp [intOf] <;> omega
          | false =>
            obtain ⟨st0, st⟩ := HO.out h42
            have hv : (x.toList == [42, 42]) = false := by rw [← HEQ.out]; exact h42
            cases q with
            | zero =>
              have ST := Lib.hid st0; clear st0 st h42
              go_wp2_with fail
              go_region
              all_goals (try go_wp2_with fail)
              go_roundw
              case rel => exact ⟨0 + 1, by omega, by go_num, (hw_.drew).other hne _, (hn_.drew).put (by omega) _ (ST.out.symm), below_set (hbq.drew) hge _⟩
              case measure => simp [intOf] <;> omega
            | succ j =>
              have cwj := hw_.cell j (by omega)
              obtain ⟨y', hy', yl⟩ := GL.out j (by omega)
              have st2 := st j y' hy'
              have clj : wr.cell? ⟨gl, j, none⟩ = some (.string (mkB y')) := (hbq.cell (p := ⟨gl, j, none⟩) kl).trans (RL.out j y' hy')
              obtain ⟨r, hr⟩ : ∃ r, fitsB b y' = r := ⟨_, rfl⟩
              rw [hr] at st2
              obtain ⟨y, hy⟩ : ∃ y, mkB y' = y := ⟨_, rfl⟩
              rw [hy] at clj
              have hfit := reffits_to x y b y' r HX.out hy (by omega) (by omega) hr
              obtain ⟨c, hc⟩ : ∃ c, F i j = c := ⟨_, rfl⟩
              rw [hc] at cwj st2
              have ST := Lib.hid st2; clear st2 st0 st hc h42
              have HFIT := Lib.hid hfit; clear hfit hr hy hy'
              cases c with
              | false =>
                go_wp2_with fail
                have lj0 : (0 : Int) ≤ (j : Int) := by omega
                have lj1 : (j : Int) < (m : Int) + 1 := by omega
                have lj2 : (j : Int) < (m : Int) := by omega
                have lj3 : (i : Int) < (n : Int) := by omega
                have lj4 : (0 : Int) ≤ (i : Int) := by omega
                have lj5 : (0 : Int) ≤ (j : Int) + 1 := by omega
                have lj6 : (j : Int) + 1 < (m : Int) + 1 := by omega
                have wj : IntKind.i64.wrap (j : Int) = (j : Int) := IntWalk.i64_in _ (by omega)
                go_region
                all_goals (try go_wp2_with fail)
                go_roundw
                case rel => exact ⟨j + 1 + 1, by omega, by go_num, (hw_.drew).other hne _, (hn_.drew).put (by omega) _ (ST.out.symm), below_set (hbq.drew) hge _⟩
                case measure => simp [intOf] <;> omega
              | true =>
                go_wp2_with fail
                have lj0 : (0 : Int) ≤ (j : Int) := by omega
                have lj1 : (j : Int) < (m : Int) + 1 := by omega
                have lj2 : (j : Int) < (m : Int) := by omega
                have lj3 : (i : Int) < (n : Int) := by omega
                have lj4 : (0 : Int) ≤ (i : Int) := by omega
                have lj5 : (0 : Int) ≤ (j : Int) + 1 := by omega
                have lj6 : (j : Int) + 1 < (m : Int) + 1 := by omega
                have wj : IntKind.i64.wrap (j : Int) = (j : Int) := IntWalk.i64_in _ (by omega)
                have lg1 : g < wr.heap.size := hw_.lt
                have lp1 : gp < wr.heap.size := Nat.lt_of_lt_of_le kp4 hbq.size
                have ll1 : gl < wr.heap.size := Nat.lt_of_lt_of_le kl hbq.size
                have lh1 : h < wr.heap.size := hn_.lt
                have np : gp ≠ h := by omega
                have nl : gl ≠ h := by omega
                go_region_held3 (fun w' => w'.cell? ⟨g, j, none⟩ = some (.bool true) ∧ w'.cell? ⟨gp, i, none⟩ = some (.string x) ∧ w'.cell? ⟨gl, j, none⟩ = some (.string y)) (first | exact ⟨cwj, cpi, clj⟩ | exact ⟨c1, c2, c3⟩ | exact ⟨(cell_other hne).trans c1, (cell_other np).trans c2, (cell_other nl).trans c3⟩) ((go_at_call 63; refine (HFIT.out _).mono ?_; rintro e w9 ⟨rfl, hb9'⟩; have hb9 := (Below.refl _ wr).drew.trans hb9'; have c1 := (hb9.cell (p := ⟨g, j, none⟩) lg1).trans cwj; have c2 := (hb9.cell (p := ⟨gp, i, none⟩) lp1).trans cpi; have c3 := (hb9.cell (p := ⟨gl, j, none⟩) ll1).trans clj; have c4 := (hb9.cell (p := ⟨h, j + 1, none⟩) lh1).trans co; have f4 := (hb9.frozen (p := ⟨h, j + 1, none⟩) lh1).trans fr))
                all_goals (try go_wp2_with fail)
                go_roundw
                case rel => exact ⟨j + 1 + 1, by omega, by go_num, (hw_.below hb9 lg1).other hne _, (hn_.below hb9 lh1).put (by omega) _ (ST.out.symm), below_set (hbq.trans (hb9.mono hbq.size)) hge _⟩
                case measure => simp [intOf] <;> omega
        · have hm2 : q = m + 1 := by omega
          subst hm2
          go_wp2_with fail
          go_roundw
          case rel => exact ⟨h, i + 1, by omega, rfl, by go_num, hge, hn_, hbq⟩
          case measure => simp [intOf] <;> omega
    · have hi2 : i = n := by omega
      subst hi2
      have cl := hrow.cell m (by omega)
      go_wp2_with fail
      go_ret
      exact ⟨rfl, hb7.trans (hbr.mono hb7.size)⟩

theorem refmatch_any (g s : ByteArray) (w : World) (hg : g.size ≤ 1000000) (hs : s.size ≤ 1000000) :
    Calls Tryz.prog 36 #[.string g, .string s] w fun e w' => e = .returned (.bool (matchB g.data.toList s.data.toList)) ∧ Below w.heap.size w w' := by
  cases h1 : globB g.data.toList with
  | false => exact refmatch_glob g s w hg h1
  | true =>
    cases h2 : rightB s.data.toList with
    | false => exact refmatch_right g s w hg hs h1 h2
    | true => exact refmatch_both g s w hg hs h1 h2
end Go.Proofs.YtedcaodbcognjaaGreatDoor
