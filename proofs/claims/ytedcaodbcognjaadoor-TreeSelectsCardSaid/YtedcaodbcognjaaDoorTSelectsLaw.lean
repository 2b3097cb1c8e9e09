/-
  The law TreeSelects, walked.
-/
import Derived.Test.YtedcaodbcognjaaDoorTSizes
import Derived.Test.YtedcaodbcognjaaDoorTSelect
import Derived.Test.YtedcaodbcognjaaDoorRefMatch
namespace Go.Proofs.YtedcaodbcognjaaDoor
open Go Go.RowKit Go.Shelf Go.Proofs

theorem match_stars (s : Bs) (hs : rightB s = true) : matchB [42, 42] s = true := by
  unfold matchB
  rw [show globB [42, 42] = true from by decide, hs, show splitL 47 [42, 42] = [[42, 42]] from by decide]
  exact parted_rest _ _ _ (by rfl) _
theorem select_all {l : List FX} (hr : rightT (flsX l) = true) : selX l ⟨#[42, 42]⟩ = l := by
  unfold selX
  rw [List.filter_eq_self]
  intro x hx
  exact match_stars _ ((right_all hr).2.1 x.fl (List.mem_map.2 ⟨x, hx, rfl⟩)).1
theorem select_at {l : List FX} {g : ByteArray} {k : Nat} {x : FX} (hx : l[k]? = some x) (hm : matchB g.data.toList x.p.data.toList = true) : (selX l g)[(selX (l.take k) g).length]? = some x ∧ (selX (l.take k) g).length < (selX l g).length ∧ (selX (l.take (k + 1)) g).length = (selX (l.take k) g).length + 1 := by
  have e : selX l g = selX (l.take k) g ++ selX (l.drop k) g := by
    unfold selX
    rw [← List.filter_append, List.take_append_drop]
  have e2 : l.drop k = x :: l.drop (k + 1) := by
    rw [List.drop_eq_getElem_cons (List.getElem?_eq_some_iff.1 hx).1, (List.getElem?_eq_some_iff.1 hx).2]
  have e3 : selX (l.drop k) g = x :: selX (l.drop (k + 1)) g := by
    rw [e2]; unfold selX; rw [List.filter_cons, if_pos hm]
  refine ⟨?_, ?_, ?_⟩
  · rw [e, List.getElem?_append_right (Nat.le_refl _), Nat.sub_self, e3]; rfl
  · rw [e, e3, List.length_append, List.length_cons]; omega
  · rw [selX_snoc g hx, if_pos hm, List.length_append]; rfl
theorem select_not {l : List FX} {g : ByteArray} {k : Nat} {x : FX} (hx : l[k]? = some x) (hm : matchB g.data.toList x.p.data.toList = false) : (selX (l.take (k + 1)) g).length = (selX (l.take k) g).length := by
  rw [selX_snoc g hx, hm]; simp

/-- A row of paths. -/
def PathsAt (w : World) (A : Option Addr) (l : List FX) : Prop := 0 < l.length → ∃ g, A = some ⟨g, 0, none⟩ ∧ ∀ i x, l[i]? = some x → w.cell? ⟨g, i, none⟩ = some (.string x.p)
theorem PathsAt.below {w w' : World} {A : Option Addr} {l : List FX} (h : PathsAt w A l) (hb : Below w.heap.size w w') : PathsAt w' A l := fun hn => by
  obtain ⟨g, e, hc⟩ := h hn
  refine ⟨g, e, fun i x hx => ?_⟩
  have h1 := hc i x hx
  exact (hb.cell (p := ⟨g, i, none⟩) (World.block_lt_of_cell? w (a := ⟨g, i, none⟩) h1)).trans h1
theorem StrsOwn.paths {base : Nat} {w : World} {v : Value} {l : List FX} (h : StrsOwn base w v l) : ∃ A c, v = .slice A l.length c ∧ PathsAt w A l := by
  have hown : w.ownsRow base 9 1 v l.length (pathVs l) := h
  rcases hown.2 with ⟨rfl, h0⟩ | ⟨g, cap, cur, rfl, _, _, hc, hcm, _, _⟩
  · refine ⟨none, 0, by rw [h0], fun h => absurd h (by omega)⟩
  · refine ⟨_, _, rfl, fun _ => ⟨g, rfl, fun i x hx => ?_⟩⟩
    have h1 : (pathVs l)[i]? = some (.string x.p) := by unfold pathVs; rw [List.getElem?_map, hx]; rfl
    have a1 := World.ownsRow.cells hown (g := g) rfl _ _ h1
    rw [Go.WideShapes.add_plain, Nat.zero_add] at a1
    exact a1

set_option maxRecDepth 100000 in
set_option maxHeartbeats 8000000 in
theorem selectslaw_any (t : List FX) (g : ByteArray) (A : Option Addr) (ca : Nat) (w : World) (ht : TreeAt w A ca t) (zt : BigX t) (hg : g.size ≤ 281474976710656) (hm : MaxOk w) :
    Calls Tryd.prog 6 #[.slice A t.length ca, .string g] w fun e w' => e = .returned (.bool true) ∧ Below w.heap.size w w' := by
  go_enter Tryd.func6, Tryd.ntmps6
  go_wp2_with fail
  refine (lawsmall_any t A ca _ ht zt).mono ?_
  rintro e w1 ⟨rfl, hb1⟩
  cases sa : smallL t with
  | false =>
    clear sa
    go_wp2_with fail
    refine (lawknown_any _ (hm.below hb1)).mono ?_
    rintro e wz ⟨rfl, hz⟩
    have HZ := Lib.hid (hb1.trans (hz.mono hb1.size)); clear hz
    go_wp2_with fail
    go_ret
    exact ⟨rfl, HZ.out⟩
  | true =>
    have tt := (smallL_tiny sa)
    clear sa
    by_cases hz : 200 < g.size
    · have hz2 : (200 : Int) < (g.size : Int) := by omega
      go_wp2_with fail
      refine (lawknown_any _ (hm.below hb1)).mono ?_
      rintro e wz ⟨rfl, hz⟩
      have HZ := Lib.hid (hb1.trans (hz.mono hb1.size)); clear hz
      go_wp2_with fail
      go_ret
      exact ⟨rfl, HZ.out⟩
    · have hz2 : ¬ (200 : Int) < (g.size : Int) := by omega
      have st : SizeX 40 3000 t := tt.sized
      have htl := st.len
      go_wp2_with fail
      refine (tright_any t A ca _ (ht.below hb1) tt.paths (hm.below hb1)).mono ?_
      rintro e w2 ⟨rfl, hq2⟩
      have hb2 := hb1.trans (hq2.mono hb1.size)
      clear hq2
      cases rt : rightT (flsX t) with
      | false =>
        clear rt
        go_wp2_with fail
        refine (lawknown_any _ (hm.below hb2)).mono ?_
        rintro e wz ⟨rfl, hz⟩
        have HZ := Lib.hid (hb2.trans (hz.mono hb2.size)); clear hz
        go_wp2_with fail
        go_ret
        exact ⟨rfl, HZ.out⟩
      | true =>
        have HS3 := tselect_any t A ca ⟨#[42, 42]⟩ w2 (ht.below hb2) (st.small (by omega) (by omega)) (by decide) (hm.below hb2)
        rw [select_all rt] at HS3
        go_wp2_with fail
        refine HS3.mono ?_
        rintro e w3 ⟨v3, rfl, h3, hq3⟩
        obtain ⟨A3, c3, rfl, p3⟩ := h3.paths
        have hb3 := hb2.trans (hq3.mono hb2.size)
        have HS4 := tselect_any t A ca g w3 (ht.below hb3) (st.small (by omega) (by omega)) (by omega) (hm.below hb3)
        clear HS3 hq3 h3
        go_wp2_with fail
        refine HS4.mono ?_
        rintro e w4 ⟨v4, rfl, h4, hq4⟩
        obtain ⟨A4, c4, rfl, p4⟩ := h4.paths
        have hb4 := hb3.trans (hq4.mono hb3.size)
        have P3 := Lib.hid (p3.below hq4)
        have P4 := Lib.hid p4
        have HB4 := Lib.hid hb4
        have HTT := Lib.hid ht
        have hle := selX_le t g
        clear HS4 hq4 h4 p3 p4 hb1 hb2 hb3 hb4
        go_wp2_with fail
        go_loopw [7, 8] (fun n i wr => ∃ (k : Nat), k ≤ t.length ∧ n = .int .i64 (selX (t.take k) g).length ∧ i = .int .i64 k ∧ Below w4.heap.size w4 wr) (fun _ i _ => t.length - (intOf i).toNat)
        case atStart => exact ⟨0, Nat.zero_le _, rfl, rfl, Below.refl _ _⟩
        case round =>
          obtain ⟨k, hk, rfl, rfl, hbr⟩ := hrel
          by_cases hlt : k < t.length
          · obtain ⟨x, hx⟩ : ∃ x, t[k]? = some x := ⟨_, List.getElem?_eq_getElem hlt⟩
            have hbw := HB4.out.trans (hbr.mono HB4.out.size)
            obtain ⟨gt, o, hA1, hr⟩ := (HTT.out.below hbw).row (by omega)
            obtain ⟨c1, _⟩ := hr k x hx
            subst hA1
            obtain ⟨ga, hA3, hra⟩ := (P3.out.below hbr) (by omega)
            subst hA3
            have c2 := hra k x hx
            have hxz := (st.each x (List.mem_of_getElem? hx)).1
            have k1 : (k : Int) < (t.length : Int) := by omega
            have wk : IntKind.i64.wrap (k : Int) = (k : Int) := IntWalk.i64_in _ (by omega)
            have HR := Lib.hid (refmatch_any g x.p wr.drew (by omega) (by omega))
            have HX := Lib.hid hx
            clear hr hra hx
            have hge : (t.length ≤ k) = False := eq_false (by omega)
            go_wp2_with fail
            go_region
            go_wp2_with fail
            refine HR.out.mono ?_
            rintro e w5 ⟨rfl, hq5⟩
            have hb5 : Below w4.heap.size w4 w5 := (hbr.drew).trans (hq5.mono hbr.size)
            cases hmt : matchB g.data.toList x.p.data.toList with
            | false =>
              have hsn := select_not HX.out hmt
              have HSN := Lib.hid hsn
              clear hsn
              go_wp2_with fail
              go_roundw
              case rel => exact ⟨k + 1, by omega, by rw [HSN.out], by go_num, hb5⟩
              case measure => simp [intOf]; omega
            | true =>
              obtain ⟨hs1, hs2, hs3⟩ := select_at HX.out hmt
              generalize hn : (selX (t.take k) g).length = n at *
              obtain ⟨gs, hA4, hrs⟩ := (P4.out.below hb5) (by omega)
              subst hA4
              have c3 := hrs n x hs1
              obtain ⟨_, _, hA5, hr5⟩ := (HTT.out.below (HB4.out.trans (hb5.mono HB4.out.size))).row (by omega)
              cases hA5
              obtain ⟨c4', _⟩ := hr5 k x HX.out
              have k2 : (n : Int) < ((selX t g).length : Int) := by omega
              have wn : IntKind.i64.wrap (n : Int) = (n : Int) := IntWalk.i64_in _ (by omega)
              have HS3' := Lib.hid hs3
              have hge2 : ((selX t g).length ≤ n) = False := eq_false (by omega)
              clear hrs hr5 hs1 hs3 c1 c2 HR
              go_wp2_with fail
              go_region
              go_wp2_with fail
              go_roundw
              case rel => exact ⟨k + 1, by omega, by rw [HS3'.out]; go_num, by go_num, hb5.drew⟩
              case measure => simp [intOf]; omega
          · obtain rfl : k = t.length := by omega
            have hsa := selX_all t g
            rw [hsa]
            have hbw := HB4.out.trans (hbr.mono HB4.out.size)
            clear hsa
            go_wp2_with fail
            refine (lawknown_any _ (hm.below hbw)).mono ?_
            rintro e wz ⟨rfl, hz⟩
            have HZ := Lib.hid (hbw.trans (hz.mono hbw.size)); clear hz
            go_wp2_with fail
            go_ret
            exact ⟨rfl, HZ.out⟩
end Go.Proofs.YtedcaodbcognjaaDoor
