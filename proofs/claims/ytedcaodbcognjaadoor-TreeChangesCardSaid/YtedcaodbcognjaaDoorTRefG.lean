/-
  The contract of the document's own Diff of layer 2.
-/
import Derived.Test.YtedcaodbcognjaaDoorTRefF
import Derived.BigRegion
import Derived.Deep.RegionHeld3
import Derived.BigQuiet
namespace Go.Proofs.YtedcaodbcognjaaDoor
open Go Go.RowKit Go.Shelf Go.Proofs
attribute [local go_sem] Oper.semAt_some

/-- What the document's Diff answers: changes that share the bytes of what was handed in. -/
def RefDiffPost (a b : List FX) (w : World) (e : Ending) (w' : World) : Prop := ∃ (A : Option Addr) (c : Nat) (l : List DX), e = .returned (.slice A l.length c) ∧ DelsAt w' A c l ∧ l.map DX.dl = diffB a b ∧ Below w.heap.size w w'

set_option maxRecDepth 100000 in
set_option maxHeartbeats 16000000 in
theorem refdiff_any (a b : List FX) (A B : Option Addr) (ca cb : Nat) (w : World) (ha : TreeAt w A ca a) (hb : TreeAt w B cb b) (sa : SmallX a) (sb : SmallX b) :
    Calls Tryd.prog 16 #[.slice A a.length ca, .slice B b.length cb] w (RefDiffPost a b w) := by
  have la := sa.1
  have lb := sb.1
  have HRA := Lib.hid (reftright_any a A ca w ha sa)
  have HA := Lib.hid ha; clear ha
  have HB := Lib.hid hb; clear hb
  go_enter Tryd.func16, Tryd.ntmps16
  go_wp2_with fail
  refine HRA.out.mono ?_
  rintro e w1 ⟨rfl, hb1⟩
  cases ra : rightT (flsX a) with
  | false =>
    have hd : diffB a b = [] := by unfold diffB; rw [ra]; rfl
    have HD := Lib.hid hd; clear hd ra
    go_wp2_with fail
    go_ret
    exact ⟨none, 0, [], rfl, ⟨Nat.zero_le _, Nat.zero_le _, fun h => absurd h (by simp), fun x hx => by cases hx⟩, by rw [HD.out]; rfl, hb1⟩
  | true =>
    have HRB := Lib.hid (reftright_any b B cb w1 (HB.out.below hb1) sb)
    go_wp2_with fail
    refine HRB.out.mono ?_
    rintro e w2 ⟨rfl, hq2⟩
    have hb2 := hb1.trans (hq2.mono hb1.size)
    clear hq2 hb1
    cases rb : rightT (flsX b) with
    | false =>
      have hd : diffB a b = [] := by unfold diffB; rw [ra, rb]; rfl
      have HD := Lib.hid hd; clear hd ra rb
      go_wp2_with fail
      go_ret
      exact ⟨none, 0, [], rfl, ⟨Nat.zero_le _, Nat.zero_le _, fun h => absurd h (by simp), fun x hx => by cases hx⟩, by rw [HD.out]; rfl, hb2⟩
    | true =>
      have hd : diffB a b = diffT (flsX a) (flsX b) := by unfold diffB; rw [ra, rb]; rfl
      have HD := Lib.hid hd; clear hd ra rb
      have HB2 := Lib.hid hb2; clear hb2
      have base0 := HB2.out.size
      go_wp2_with fail
      go_loopw [5, 6, 7] (fun v i k wr => ∃ (i' k' : Nat) (outs : List DX), i' ≤ a.length ∧ k' ≤ b.length + 1 ∧ (k' = b.length + 1 → i' = a.length) ∧ i = .int .i64 i' ∧ k = .int .i64 k' ∧ RowD w.heap.size wr v outs ∧ Hid (DInv a b w i' k' outs) ∧ Below w.heap.size w wr) (fun _ _ k _ => b.length + 1 - (intOf k).toNat)
      case atStart => exact ⟨0, 0, [], Nat.zero_le _, Nat.zero_le _, fun h => by omega, rfl, rfl, World.ownsRow_nil _ _ _ _, ⟨rfl, Nat.zero_le _, fun x hx => by cases hx⟩, HB2.out⟩
      case round =>
        obtain ⟨i, k, outs, hi, hk, hend, rfl, rfl, hrow, HI, hbr⟩ := hrel
        by_cases hkl : k ≤ b.length
        · have k0 : (k : Int) ≤ (b.length : Int) := by omega
          go_wp2_with fail
          go_loopw [5, 6] (fun v i wq => ∃ (i' : Nat) (outs : List DX), i' ≤ a.length ∧ i = .int .i64 i' ∧ RowD w.heap.size wq v outs ∧ Hid (DInv a b w i' k outs) ∧ Below w.heap.size w wq) (fun _ i _ => a.length - (intOf i).toNat)
          case atStart => exact ⟨i, outs, hi, rfl, hrow, HI, hbr⟩
          case round =>
            clear hrow HI hbr hend hi
            obtain ⟨i, outs, hi, rfl, hrow, HI, hbr⟩ := hrel
            have hW := hbr.size
            have hol : outs.length ≤ 1000000 := by have := HI.out.len; omega
            obtain ⟨Av, cv, rfl⟩ := hrow.slice
            have wi : IntKind.i64.wrap (i : Int) = (i : Int) := IntWalk.i64_in _ (by omega)
            have wk : IntKind.i64.wrap (k : Int) = (k : Int) := IntWalk.i64_in _ (by omega)
            have hrd : RowD w.heap.size wr.drew (.slice Av outs.length cv) outs := hrow.below (below_drew1 wr)
            have HR := Lib.hid hrow; clear hrow
            have HRD := Lib.hid hrd; clear hrd
            by_cases hia : i < a.length
            · obtain ⟨x, hx⟩ : ∃ x, a[i]? = some x := ⟨_, List.getElem?_eq_getElem hia⟩
              have i1 : (i : Int) < (a.length : Int) := by omega
              have htA := HA.out.below hbr
              obtain ⟨g, o, eA, hr⟩ := htA.row (by omega)
              subst eA
              obtain ⟨c1, c2⟩ := hr i x hx
              have hbx := htA.files x (List.mem_of_getElem? hx)
              have HBX := Lib.hid hbx; clear hbx
              have HX := Lib.hid hx; clear hx
              clear hr htA
              rcases Nat.lt_or_eq_of_le hkl with hkb | hkb
              · obtain ⟨y, hy⟩ : ∃ y, b[k]? = some y := ⟨_, List.getElem?_eq_getElem hkb⟩
                have k1 : (k : Int) < (b.length : Int) := by omega
                have k2 : ((k : Int) == (b.length : Int)) = false := by rw [beq_eq_false_iff_ne]; omega
                have htB := HB.out.below hbr
                obtain ⟨g', o', eB, hr'⟩ := htB.row (by omega)
                subst eB
                obtain ⟨d1, d2⟩ := hr' k y hy
                have hby := HB.out.files y (List.mem_of_getElem? hy)
                have HBY := Lib.hid hby; clear hby
                have HBYR := Lib.hid (HBY.out.below hbr)
                have HY := Lib.hid hy; clear hy
                clear hr' htB
                cases hlt : ltB x.p.data.toList y.p.data.toList with
                | true =>
                  have hq : Op.bytesLess x.p.toList y.p.toList = true := by rw [ByteArray.toList_eq, ByteArray.toList_eq]; exact hlt
                  have hn := HI.out.push (d := ⟨3, x.p, none, 0, []⟩) (dstep_del HX.out HY.out hlt) (by omega) (BytesAt.nil _ _)
                  have HN := Lib.hid hn; clear hn hlt
                  go_wp2_with fail
                  go_region
                  go_wp2_with (at_builtin; refine wpList_append_delta rfl _ _ rfl w.heap.size _ outs ⟨3, x.p, none, 0, []⟩ wr.heap.size 1 rfl (HRD.out.below (below_box wr.drew _)) rfl (BoxD.new wr.drew ⟨3, x.p, none, 0, []⟩ _) hol (Nat.le_trans hW (below_box wr _).size) ?_; intro v' w' hown' hgrow; obtain ⟨A', c', rfl⟩ := hown'.slice; rw [List.length_append, List.length_singleton] at hown')
                  go_roundw
                  case rel => exact ⟨i + 1, _, by omega, by go_num, hown', HN, ((hbr.drew).trans ((Below.refl _ wr.drew).alloc hW _)).grown hgrow (Nat.le_trans hW (below_box wr _).size) fun j ej => (rowT_ge HR.out ej).1⟩
                  case measure => simp [intOf]; omega
                | false =>
                  have hq : Op.bytesLess x.p.toList y.p.toList = false := by rw [ByteArray.toList_eq, ByteArray.toList_eq]; exact hlt
                  have HLT := Lib.hid hlt; clear hlt
                  cases he : (x.p.toList == y.p.toList) with
                  | true =>
                    have s1 := run_str wr.drew.drew.drew x.A x.c x.b (((HBX.out.below (below_drew1 _)).below (below_drew1 _)).below (below_drew1 _))
                    have s2 := run_str wr.drew.drew.drew y.A y.c y.b (((HBYR.out.below (below_drew1 _)).below (below_drew1 _)).below (below_drew1 _))
                    have hmb := mkB_eq x.b y.b
                    cases hbb : (x.b == y.b) with
                    | true =>
                      rw [hbb] at hmb
                      have hn := HI.out.pass (dstep_same HX.out HY.out he hbb) (by omega)
                      have HN := Lib.hid hn; clear hn
                      go_wp2_with fail
                      go_region
                      go_wp2_with fail
                      go_region
                      go_wp2_with fail
                      go_region
                      go_wp2_with fail
                      go_roundw
                      case rel => exact ⟨i + 1, k + 1, outs, by omega, by omega, fun h => by omega, by go_num, by go_num, HR.out.below (((Below.refl _ _).drew.drew.drew)), HN.out, hbr.drew.drew.drew⟩
                      case measure => simp [intOf]; omega
                    | false =>
                      rw [hbb] at hmb
                      have hn := HI.out.push (d := ⟨2, y.p, y.A, y.c, y.b⟩) (dstep_mod HX.out HY.out he hbb) (by omega) HBY.out
                      have HN := Lib.hid hn; clear hn
                      go_wp2_with fail
                      go_region
                      go_wp2_with fail
                      go_region
                      go_wp2_with fail
                      go_region
                      have hbdn : Below wr.heap.size wr (wr.drew.drew.drew.drew) := (Below.refl _ wr).drew.drew.drew.drew
                      have hrdn : RowD w.heap.size (wr.drew.drew.drew.drew) (.slice Av outs.length cv) outs := HR.out.below (hbdn)
                      go_wp2_with fail
                      go_region_law (refine step_append_delta rfl _ _ rfl w.heap.size (.slice Av outs.length cv) outs ⟨2, y.p, y.A, y.c, y.b⟩ wr.heap.size 1 (by simp [Act.eval]) (hrdn.below (below_box (wr.drew.drew.drew.drew) _)) (by simp [Act.eval]) (BoxD.new (wr.drew.drew.drew.drew) ⟨2, y.p, y.A, y.c, y.b⟩ _) hol (Nat.le_trans hW (below_box wr _).size) ?_; intro v' w' hown' hgrow)
                      all_goals (
                        obtain ⟨A', c', rfl⟩ := hown'.slice
                        rw [List.length_append, List.length_singleton] at hown'
                        go_wp2_with fail
                        go_roundw
                        case rel => exact ⟨i + 1, k + 1, _, by omega, by omega, fun h => by omega, by go_num, by go_num, hown', HN, ((hbr.trans (hbdn.mono hW)).trans ((Below.refl _ (wr.drew.drew.drew.drew)).alloc hW _)).grown hgrow (Nat.le_trans hW (below_box wr _).size) fun j ej => (rowT_ge HR.out ej).1⟩
                        case measure => simp [intOf]; omega)
                  | false =>
                    have hn := HI.out.push (d := ⟨1, y.p, y.A, y.c, y.b⟩) (dstep_add HX.out HY.out he HLT.out) (by omega) HBY.out
                    have HN := Lib.hid hn; clear hn
                    go_wp2_with fail
                    go_region
                    go_wp2_with fail
                    go_region
                    have hbdn : Below wr.heap.size wr (wr.drew.drew.drew) := (Below.refl _ wr).drew.drew.drew
                    have hrdn : RowD w.heap.size (wr.drew.drew.drew) (.slice Av outs.length cv) outs := HR.out.below (hbdn)
                    go_wp2_with fail
                    go_region_law (refine step_append_delta rfl _ _ rfl w.heap.size (.slice Av outs.length cv) outs ⟨1, y.p, y.A, y.c, y.b⟩ wr.heap.size 1 (by simp [Act.eval]) (hrdn.below (below_box (wr.drew.drew.drew) _)) (by simp [Act.eval]) (BoxD.new (wr.drew.drew.drew) ⟨1, y.p, y.A, y.c, y.b⟩ _) hol (Nat.le_trans hW (below_box wr _).size) ?_; intro v' w' hown' hgrow)
                    all_goals (
                      obtain ⟨A', c', rfl⟩ := hown'.slice
                      rw [List.length_append, List.length_singleton] at hown'
                      go_wp2_with fail
                      go_roundw
                      case rel => exact ⟨i, k + 1, _, by omega, by omega, fun h => by omega, by go_num, by go_num, hown', HN, ((hbr.trans (hbdn.mono hW)).trans ((Below.refl _ (wr.drew.drew.drew)).alloc hW _)).grown hgrow (Nat.le_trans hW (below_box wr _).size) fun j ej => (rowT_ge HR.out ej).1⟩
                      case measure => simp [intOf]; omega)
              · have k2 : ((k : Int) == (b.length : Int)) = true := by rw [beq_iff_eq]; omega
                have hn := HI.out.push (d := ⟨3, x.p, none, 0, []⟩) (dstep_end HX.out (by omega)) (by omega) (BytesAt.nil _ _)
                have HN := Lib.hid hn; clear hn hkb
                go_wp2_with fail
                go_region
                go_wp2_with (at_builtin; refine wpList_append_delta rfl _ _ rfl w.heap.size _ outs ⟨3, x.p, none, 0, []⟩ wr.heap.size 1 rfl (HRD.out.below (below_box wr.drew _)) rfl (BoxD.new wr.drew ⟨3, x.p, none, 0, []⟩ _) hol (Nat.le_trans hW (below_box wr _).size) ?_; intro v' w' hown' hgrow; obtain ⟨A', c', rfl⟩ := hown'.slice; rw [List.length_append, List.length_singleton] at hown')
                go_roundw
                case rel => exact ⟨i + 1, _, by omega, by go_num, hown', HN, ((hbr.drew).trans ((Below.refl _ wr.drew).alloc hW _)).grown hgrow (Nat.le_trans hW (below_box wr _).size) fun j ej => (rowT_ge HR.out ej).1⟩
                case measure => simp [intOf]; omega
            · obtain rfl : i = a.length := by omega
              have i1 : ¬ ((a.length : Int) < (a.length : Int)) := by omega
              rcases Nat.lt_or_eq_of_le hkl with hkb | hkb
              · obtain ⟨y, hy⟩ : ∃ y, b[k]? = some y := ⟨_, List.getElem?_eq_getElem hkb⟩
                have k1 : (k : Int) < (b.length : Int) := by omega
                have k2 : ((k : Int) == (b.length : Int)) = false := by rw [beq_eq_false_iff_ne]; omega
                have htB := HB.out.below hbr
                obtain ⟨g', o', eB, hr'⟩ := htB.row (by omega)
                subst eB
                obtain ⟨d1, d2⟩ := hr' k y hy
                have hby := HB.out.files y (List.mem_of_getElem? hy)
                have HBY := Lib.hid hby; clear hby
                have HY := Lib.hid hy; clear hy
                clear hr' htB
                have hn := HI.out.push (d := ⟨1, y.p, y.A, y.c, y.b⟩) (dstep_last (Nat.le_refl _) HY.out) (by omega) HBY.out
                have HN := Lib.hid hn; clear hn
                go_wp2_with fail
                go_region
                go_wp2_with fail
                go_region
                have hbdn : Below wr.heap.size wr (wr.drew.drew.drew) := (Below.refl _ wr).drew.drew.drew
                have hrdn : RowD w.heap.size (wr.drew.drew.drew) (.slice Av outs.length cv) outs := HR.out.below (hbdn)
                go_wp2_with fail
                go_region_law (refine step_append_delta rfl _ _ rfl w.heap.size (.slice Av outs.length cv) outs ⟨1, y.p, y.A, y.c, y.b⟩ wr.heap.size 1 (by simp [Act.eval]) (hrdn.below (below_box (wr.drew.drew.drew) _)) (by simp [Act.eval]) (BoxD.new (wr.drew.drew.drew) ⟨1, y.p, y.A, y.c, y.b⟩ _) hol (Nat.le_trans hW (below_box wr _).size) ?_; intro v' w' hown' hgrow)
                all_goals (
                  obtain ⟨A', c', rfl⟩ := hown'.slice
                  rw [List.length_append, List.length_singleton] at hown'
                  go_wp2_with fail
                  go_roundw
                  case rel => exact ⟨a.length, k + 1, _, by omega, by omega, fun h => by omega, by go_num, by go_num, hown', HN, ((hbr.trans (hbdn.mono hW)).trans ((Below.refl _ (wr.drew.drew.drew)).alloc hW _)).grown hgrow (Nat.le_trans hW (below_box wr _).size) fun j ej => (rowT_ge HR.out ej).1⟩
                  case measure => simp [intOf]; omega)
              · have k2 : ((k : Int) == (b.length : Int)) = true := by rw [beq_iff_eq]; omega
                have hn := HI.out.pass (i' := a.length) (k' := k + 1) (by rw [fls_over (Nat.le_refl _), fls_over (a := b) (i := k) (by omega), fls_over (a := b) (i := k + 1) (by omega)]) (by omega)
                have HN := Lib.hid hn; clear hn
                go_wp2_with fail
                go_region
                go_wp2_with fail
                go_roundw
                case rel => exact ⟨a.length, k + 1, outs, by omega, by omega, fun _ => rfl, by go_num, by go_num, HRD.out, HN, hbr.drew⟩
                case measure => simp [intOf]; omega
        · have hkk : k = b.length + 1 := by omega
          have hii := hend hkk
          have k0 : ¬ ((k : Int) ≤ (b.length : Int)) := by omega
          have hdone := HI.out.done (by omega) (by omega)
          have HDN := Lib.hid hdone; clear hdone
          have hdl := hrow.dels fun x hx => (HI.out.bytes x hx).below hbr
          obtain ⟨A', c', rfl, hdl⟩ := hdl
          have HDL := Lib.hid hdl; clear hdl hrow hkk hii hend
          go_wp2_with fail
          go_ret
          exact ⟨A', c', outs, rfl, HDL.out, by rw [HD.out]; exact HDN.out, hbr⟩
end Go.Proofs.YtedcaodbcognjaaDoor
