/-
  The contracts of the document's own answers of layer 2: LongDeltas, SameDeltas; one change more in a row; what a difference is made of, step by step. · One change more in a row; what a difference is made of, step by step.
-/
import Derived.Test.YtffhfllikamccaaGreatDoorTRefz
import Derived.Test.YtffhfllikamccaaGreatDoorTLo
import Derived.Deep.RegionLaw
namespace Go.Proofs.YtffhfllikamccaaGreatDoor
open Go Go.RowKit Go.Shelf Go.Proofs
attribute [local go_sem] Oper.semAt_some

set_option maxRecDepth 100000 in
set_option maxHeartbeats 8000000 in
theorem refsamedeltas_same (l m : List DX) (A B : Option Addr) (c d : Nat) (w : World) (ha : DelsAt w A c l) (hb : DelsAt w B d m) (hlm : l.map DX.dl = m.map DX.dl) (hl : l.length ≤ 100000) :
    Calls Tryz.prog 21 #[.slice A l.length c, .slice B m.length d] w fun e w' => e = .returned (.bool true) ∧ Below w.heap.size w w' := by
  have hlen : m.length = l.length := by have := congrArg List.length hlm; rw [List.length_map, List.length_map] at this; exact this.symm
  have HA := Lib.hid ha; clear ha
  have HB := Lib.hid hb; clear hb
  have HLM := Lib.hid hlm; clear hlm
  rw [hlen]
  go_enter Tryz.func21, Tryz.ntmps21
  go_wp2_with fail
  go_loopw [5] (fun i wr => ∃ (k : Nat), k ≤ l.length ∧ i = .int .i64 k ∧ Below w.heap.size w wr) (fun i _ => l.length - (intOf i).toNat)
  case atStart => exact ⟨0, Nat.zero_le _, rfl, Below.refl _ _⟩
  case round =>
    obtain ⟨k, hk, rfl, hbr⟩ := hrel
    by_cases h1 : k < l.length
    · obtain ⟨x, hx⟩ : ∃ x, l[k]? = some x := ⟨_, List.getElem?_eq_getElem h1⟩
      obtain ⟨y, hy⟩ : ∃ y, m[k]? = some y := ⟨_, List.getElem?_eq_getElem (by omega)⟩
      have hxy : x.dl = y.dl := by
        have e : (l.map DX.dl)[k]? = (m.map DX.dl)[k]? := by rw [HLM.out]
        rw [List.getElem?_map, List.getElem?_map, hx, hy] at e
        exact Option.some.inj e
      have dA := HA.out.below hbr
      have dB := HB.out.below hbr
      obtain ⟨g, o, eA, hr⟩ := dA.row (by omega)
      subst eA
      obtain ⟨g', o', eB, hr'⟩ := dB.row (by omega)
      subst eB
      obtain ⟨c0, c1, c2⟩ := hr k x hx
      obtain ⟨d0, d1, d2⟩ := hr' k y hy
      have s1 := run_str wr.drew x.A x.c x.b ((dA.bytes x (List.mem_of_getElem? hx)).below (below_drew1 wr))
      have s2 := run_str wr.drew y.A y.c y.b ((dB.bytes y (List.mem_of_getElem? hy)).below (below_drew1 wr))
      have hbb : y.b = x.b := (congrArg Dl.b hxy).symm
      have hkk : y.k = x.k := (congrArg Dl.k hxy).symm
      have hpp : y.p = x.p := (str_eq_of (by rw [beq_iff_eq, ByteArray.toList_eq, ByteArray.toList_eq]; exact congrArg Dl.p hxy)).symm
      rw [hkk] at d0
      rw [hpp] at d1
      rw [hbb] at d2 s2
      have hk0 : (x.k == x.k) = true := beq_self_eq_true _
      have hp0 : (x.p.toList == x.p.toList) = true := beq_self_eq_true _
      have hb0 : ((mkB x.b).toList == (mkB x.b).toList) = true := beq_self_eq_true _
      have k1 : (k : Int) < (l.length : Int) := by omega
      have wk : IntKind.i64.wrap (k : Int) = (k : Int) := IntWalk.i64_in _ (by omega)
      clear hr hr' dA dB hx hy hbb hxy
      go_wp2_with fail
      refine wp_region_held_drew (S := (fun w' => (w'.cell? ⟨g, o + k * 3, none⟩ = some (.int .i64 x.k) ∧ w'.cell? ⟨g, o + k * 3 + 1, none⟩ = some (.string x.p) ∧ w'.cell? ⟨g, o + k * 3 + 2, none⟩ = some (.slice x.A x.b.length x.c)) ∧ (w'.cell? ⟨g', o' + k * 3, none⟩ = some (.int .i64 x.k) ∧ w'.cell? ⟨g', o' + k * 3 + 1, none⟩ = some (.string x.p) ∧ w'.cell? ⟨g', o' + k * 3 + 2, none⟩ = some (.slice y.A x.b.length y.c)) ∧ (convert 60 9 (.slice x.A x.b.length x.c)).run Tryz.prog w' = .ok (.string (mkB x.b)) w' ∧ (convert 60 9 (.slice y.A x.b.length y.c)).run Tryz.prog w' = .ok (.string (mkB x.b)) w')) (by kernel_rfl) ⟨⟨c0, c1, c2⟩, ⟨d0, d1, d2⟩, s1, s2⟩ (fun hHeld => ?_)
      refine wpAnyH_take (i := 0) (v := ?vd0) rfl (by kernel_rfl) (by kernel_rfl) (by kernel_rfl) (fun _ _ _ h => h) (Or.inl ⟨by rfl, ?yd0⟩) (by assumption) ?rd0
      case yd0 =>
        intro w hSw
        (try dsimp only at hSw)
        go_simp
        first | done | with_reducible rfl
      try simp only [Act.put, List.getElem_toArray, List.getElem_cons_zero, List.setIfInBounds_toArray, List.set_cons_zero, List.set_cons_succ]
      refine wpAnyH_take (i := 1) (v := ?vd1) rfl (by kernel_rfl) (by kernel_rfl) (by kernel_rfl) (fun _ _ _ h => h) (Or.inl ⟨by rfl, ?yd1⟩) (by assumption) ?rd1
      case yd1 =>
        intro w hSw
        (try dsimp only at hSw)
        go_simp
        first | done | with_reducible rfl
      try simp only [Act.put, List.getElem_toArray, List.getElem_cons_zero, List.getElem_cons_succ, List.setIfInBounds_toArray, List.set_cons_zero, List.set_cons_succ]
      refine wpAnyH_take (i := 2) (v := ?vd2) rfl (by kernel_rfl) (by kernel_rfl) (by kernel_rfl) (fun _ _ _ h => h) (Or.inl ⟨by rfl, ?yd2⟩) (by assumption) ?rd2
      case yd2 =>
        intro w hSw
        (try dsimp only at hSw)
        go_simp
        first | done | with_reducible rfl
      try simp only [Act.put, List.getElem_toArray, List.getElem_cons_zero, List.getElem_cons_succ, List.setIfInBounds_toArray, List.set_cons_zero, List.set_cons_succ]
      refine wpAnyH_take (i := 3) (v := ?vd3) rfl (by kernel_rfl) (by kernel_rfl) (by kernel_rfl) (fun _ _ _ h => h) (Or.inl ⟨by rfl, ?yd3⟩) (by assumption) ?rd3
      case yd3 =>
        intro w hSw
        (try dsimp only at hSw)
        go_simp
        first | done | with_reducible rfl
      try simp only [Act.put, List.getElem_toArray, List.getElem_cons_zero, List.getElem_cons_succ, List.setIfInBounds_toArray, List.set_cons_zero, List.set_cons_succ]
      refine wpAnyH_take (i := 4) (v := ?vd4) rfl (by kernel_rfl) (by kernel_rfl) (by kernel_rfl) (fun _ _ _ h => h) (Or.inl ⟨by rfl, ?yd4⟩) (by assumption) ?rd4
      case yd4 =>
        intro w hSw
        (try dsimp only at hSw)
        go_simp
        first | done | with_reducible rfl
      try simp only [Act.put, List.getElem_toArray, List.getElem_cons_zero, List.getElem_cons_succ, List.setIfInBounds_toArray, List.set_cons_zero, List.set_cons_succ]
      refine wpAnyH_take (i := 5) (v := ?vd5) rfl (by kernel_rfl) (by kernel_rfl) (by kernel_rfl) (fun _ _ _ h => h) (Or.inl ⟨by rfl, ?yd5⟩) (by assumption) ?rd5
      case yd5 =>
        intro w hSw
        (try dsimp only at hSw)
        go_simp
        first | done | with_reducible rfl
      try simp only [Act.put, List.getElem_toArray, List.getElem_cons_zero, List.getElem_cons_succ, List.setIfInBounds_toArray, List.set_cons_zero, List.set_cons_succ]
      refine wpAnyH_take (i := 6) (v := ?vd6) rfl (by kernel_rfl) (by kernel_rfl) (by kernel_rfl) (fun _ _ _ h => h) (Or.inl ⟨by rfl, ?yd6⟩) (by assumption) ?rd6
      case yd6 =>
        intro w hSw
        (try dsimp only at hSw)
        go_simp
        first | done | with_reducible rfl
      try simp only [Act.put, List.getElem_toArray, List.getElem_cons_zero, List.getElem_cons_succ, List.setIfInBounds_toArray, List.set_cons_zero, List.set_cons_succ]
      refine wpAnyH_take (i := 7) (v := ?vd7) rfl (by kernel_rfl) (by kernel_rfl) (by kernel_rfl) (fun _ _ _ h => h) (Or.inl ⟨by rfl, ?yd7⟩) (by assumption) ?rd7
      case yd7 =>
        intro w hSw
        (try dsimp only at hSw)
        go_simp
        first | done | with_reducible rfl
      try simp only [Act.put, List.getElem_toArray, List.getElem_cons_zero, List.getElem_cons_succ, List.setIfInBounds_toArray, List.set_cons_zero, List.set_cons_succ]
      refine wpAnyH_take (i := 8) (v := ?vd8) rfl (by kernel_rfl) (by kernel_rfl) (by kernel_rfl) (fun _ _ _ h => h) (Or.inl ⟨by rfl, ?yd8⟩) (by assumption) ?rd8
      case yd8 =>
        intro w hSw
        (try dsimp only at hSw)
        go_simp
        first | done | with_reducible rfl
      try simp only [Act.put, List.getElem_toArray, List.getElem_cons_zero, List.getElem_cons_succ, List.setIfInBounds_toArray, List.set_cons_zero, List.set_cons_succ]
      refine wpAnyH_take (i := 9) (v := ?vd9) rfl (by kernel_rfl) (by kernel_rfl) (by kernel_rfl) (fun _ _ _ h => h) (Or.inl ⟨by rfl, ?yd9⟩) (by assumption) ?rd9
      case yd9 =>
        intro w hSw
        (try dsimp only at hSw)
        go_simp
        first | done | with_reducible rfl
      try simp only [Act.put, List.getElem_toArray, List.getElem_cons_zero, List.getElem_cons_succ, List.setIfInBounds_toArray, List.set_cons_zero, List.set_cons_succ]
      refine wpAnyH_take (i := 10) (v := ?vd10) rfl (by kernel_rfl) (by kernel_rfl) (by kernel_rfl) (fun _ _ _ h => h) (Or.inl ⟨by rfl, ?yd10⟩) (by assumption) ?rd10
      case yd10 =>
        intro w hSw
        (try dsimp only at hSw)
        go_simp
        first | done | with_reducible rfl
      try simp only [Act.put, List.getElem_toArray, List.getElem_cons_zero, List.getElem_cons_succ, List.setIfInBounds_toArray, List.set_cons_zero, List.set_cons_succ]
      refine wpAnyH_take (i := 11) (v := ?vd11) rfl (by kernel_rfl) (by kernel_rfl) (by kernel_rfl) (fun _ _ _ h => h) (Or.inl ⟨by rfl, ?yd11⟩) (by assumption) ?rd11
      case yd11 =>
        intro w hSw
        (try dsimp only at hSw)
        go_simp
        first | done | with_reducible rfl
      try simp only [Act.put, List.getElem_toArray, List.getElem_cons_zero, List.getElem_cons_succ, List.setIfInBounds_toArray, List.set_cons_zero, List.set_cons_succ]
      refine wpAnyH_take (i := 12) (v := ?vd12) rfl (by kernel_rfl) (by kernel_rfl) (by kernel_rfl) (fun _ _ _ h => h) (Or.inl ⟨by rfl, ?yd12⟩) (by assumption) ?rd12
      case yd12 =>
        intro w hSw
        (try dsimp only at hSw)
        go_simp
        first | done | with_reducible rfl
      try simp only [Act.put, List.getElem_toArray, List.getElem_cons_zero, List.getElem_cons_succ, List.setIfInBounds_toArray, List.set_cons_zero, List.set_cons_succ]
      refine wpAnyH_take (i := 13) (v := ?vd13) rfl (by kernel_rfl) (by kernel_rfl) (by kernel_rfl) (fun _ _ _ h => h) (Or.inl ⟨by rfl, ?yd13⟩) (by assumption) ?rd13
      case yd13 =>
        intro w hSw
        (try dsimp only at hSw)
        go_simp
        first | done | with_reducible rfl
      try simp only [Act.put, List.getElem_toArray, List.getElem_cons_zero, List.getElem_cons_succ, List.setIfInBounds_toArray, List.set_cons_zero, List.set_cons_succ]
      refine wpAnyH_take (i := 14) (v := ?vd14) rfl (by kernel_rfl) (by kernel_rfl) (by kernel_rfl) (fun _ _ _ h => h) (Or.inl ⟨by rfl, ?yd14⟩) (by assumption) ?rd14
      case yd14 =>
        intro w hSw
        (try dsimp only at hSw)
        go_simp
        first | done | with_reducible rfl
      try simp only [Act.put, List.getElem_toArray, List.getElem_cons_zero, List.getElem_cons_succ, List.setIfInBounds_toArray, List.set_cons_zero, List.set_cons_succ]
      refine wpAnyH_take (i := 15) (v := ?vd15) rfl (by kernel_rfl) (by kernel_rfl) (by kernel_rfl) (fun _ _ _ h => h) (Or.inl ⟨by rfl, ?yd15⟩) (by assumption) ?rd15
      case yd15 =>
        intro w hSw
        (try dsimp only at hSw)
        go_simp
        first | done | with_reducible rfl
      try simp only [Act.put, List.getElem_toArray, List.getElem_cons_zero, List.getElem_cons_succ, List.setIfInBounds_toArray, List.set_cons_zero, List.set_cons_succ]
      refine wpAnyH_take (i := 16) (v := ?vd16) rfl (by kernel_rfl) (by kernel_rfl) (by kernel_rfl) (fun _ _ _ h => h) (Or.inl ⟨by rfl, ?yd16⟩) (by assumption) ?rd16
      case yd16 =>
        intro w hSw
        (try dsimp only at hSw)
        go_simp
        first | done | with_reducible rfl
      try simp only [Act.put, List.getElem_toArray, List.getElem_cons_zero, List.getElem_cons_succ, List.setIfInBounds_toArray, List.set_cons_zero, List.set_cons_succ]
      refine wpAnyH_take (i := 17) (v := ?vd17) rfl (by kernel_rfl) (by kernel_rfl) (by kernel_rfl) (fun _ _ _ h => h) (Or.inl ⟨by rfl, ?yd17⟩) (by assumption) ?rd17
      case yd17 =>
        intro w hSw
        (try dsimp only at hSw)
        go_simp
        first | done | with_reducible rfl
      try simp only [Act.put, List.getElem_toArray, List.getElem_cons_zero, List.getElem_cons_succ, List.setIfInBounds_toArray, List.set_cons_zero, List.set_cons_succ]
      refine wpAnyH_take (i := 18) (v := ?vd18) rfl (by kernel_rfl) (by kernel_rfl) (by kernel_rfl) (fun _ _ _ h => h) (Or.inl ⟨by rfl, ?yd18⟩) (by assumption) ?rd18
      case yd18 =>
        intro w hSw
        (try dsimp only at hSw)
        go_simp
        first | done | with_reducible rfl
      try simp only [Act.put, List.getElem_toArray, List.getElem_cons_zero, List.getElem_cons_succ, List.setIfInBounds_toArray, List.set_cons_zero, List.set_cons_succ]
      refine wpAnyH_take (i := 19) (v := ?vd19) rfl (by kernel_rfl) (by kernel_rfl) (by kernel_rfl) (fun _ _ _ h => h) (Or.inl ⟨by rfl, ?yd19⟩) (by assumption) ?rd19
      case yd19 =>
        intro w hSw
        (try dsimp only at hSw)
        go_simp
        first | done | with_reducible rfl
      try simp only [Act.put, List.getElem_toArray, List.getElem_cons_zero, List.getElem_cons_succ, List.setIfInBounds_toArray, List.set_cons_zero, List.set_cons_succ]
      refine wpAnyH_take (i := 20) (v := ?vd20) rfl (by kernel_rfl) (by kernel_rfl) (by kernel_rfl) (fun _ _ _ h => h) (Or.inl ⟨by rfl, ?yd20⟩) (by assumption) ?rd20
      case yd20 =>
        intro w hSw
        (try dsimp only at hSw)
        go_simp
        first | done | with_reducible rfl
      try simp only [Act.put, List.getElem_toArray, List.getElem_cons_zero, List.getElem_cons_succ, List.setIfInBounds_toArray, List.set_cons_zero, List.set_cons_succ]
      refine wpAnyH_take (i := 21) (v := ?vd21) rfl (by kernel_rfl) (by kernel_rfl) (by kernel_rfl) (fun _ _ _ h => h) (Or.inl ⟨by rfl, ?yd21⟩) (by assumption) ?rd21
      case yd21 =>
        intro w hSw
        (try dsimp only at hSw)
        go_simp
        first | done | with_reducible rfl
      try simp only [Act.put, List.getElem_toArray, List.getElem_cons_zero, List.getElem_cons_succ, List.setIfInBounds_toArray, List.set_cons_zero, List.set_cons_succ]
      refine wpAnyH_take (i := 22) (v := ?vd22) rfl (by kernel_rfl) (by kernel_rfl) (by kernel_rfl) (fun _ _ _ h => h) (Or.inl ⟨by rfl, ?yd22⟩) (by assumption) ?rd22
      case yd22 =>
        intro w hSw
        (try dsimp only at hSw)
        go_simp
        first | done | with_reducible rfl
      try simp only [Act.put, List.getElem_toArray, List.getElem_cons_zero, List.getElem_cons_succ, List.setIfInBounds_toArray, List.set_cons_zero, List.set_cons_succ]
      refine wpAnyH_take (i := 23) (v := ?vd23) rfl (by kernel_rfl) (by kernel_rfl) (by kernel_rfl) (fun _ _ _ h => h) (Or.inl ⟨by rfl, ?yd23⟩) (by assumption) ?rd23
      case yd23 =>
        intro w hSw
        (try dsimp only at hSw)
        go_simp
        first | done | with_reducible rfl
      try simp only [Act.put, List.getElem_toArray, List.getElem_cons_zero, List.getElem_cons_succ, List.setIfInBounds_toArray, List.set_cons_zero, List.set_cons_succ]
      refine wpAnyH_take (i := 24) (v := ?vd24) rfl (by kernel_rfl) (by kernel_rfl) (by kernel_rfl) (fun _ _ _ h => h) (Or.inl ⟨by rfl, ?yd24⟩) (by assumption) ?rd24
      case yd24 =>
        intro w hSw
        (try dsimp only at hSw)
        go_simp
        first | done | with_reducible rfl
      try simp only [Act.put, List.getElem_toArray, List.getElem_cons_zero, List.getElem_cons_succ, List.setIfInBounds_toArray, List.set_cons_zero, List.set_cons_succ]
      refine wpAnyH_take (i := 25) (v := ?vd25) rfl (by kernel_rfl) (by kernel_rfl) (by kernel_rfl) (fun _ _ _ h => h) (Or.inl ⟨by rfl, ?yd25⟩) (by assumption) ?rd25
      case yd25 =>
        intro w hSw
        (try dsimp only at hSw)
        go_simp
        first | done | with_reducible rfl
      try simp only [Act.put, List.getElem_toArray, List.getElem_cons_zero, List.getElem_cons_succ, List.setIfInBounds_toArray, List.set_cons_zero, List.set_cons_succ]
      refine wpAnyH_take (i := 26) (v := ?vd26) rfl (by kernel_rfl) (by kernel_rfl) (by kernel_rfl) (fun _ _ _ h => h) (Or.inl ⟨by rfl, ?yd26⟩) (by assumption) ?rd26
      case yd26 =>
        intro w hSw
        (try dsimp only at hSw)
        go_simp
        first | done | with_reducible rfl
      try simp only [Act.put, List.getElem_toArray, List.getElem_cons_zero, List.getElem_cons_succ, List.setIfInBounds_toArray, List.set_cons_zero, List.set_cons_succ]
      refine wpAnyH_take (i := 27) (v := ?vd27) rfl (by kernel_rfl) (by kernel_rfl) (by kernel_rfl) (fun _ _ _ h => h) (Or.inl ⟨by rfl, ?yd27⟩) (by assumption) ?rd27
      case yd27 =>
        intro w hSw
        (try dsimp only at hSw)
        go_simp
        first | done | with_reducible rfl
      try simp only [Act.put, List.getElem_toArray, List.getElem_cons_zero, List.getElem_cons_succ, List.setIfInBounds_toArray, List.set_cons_zero, List.set_cons_succ]
      refine wpAnyH_take (i := 28) (v := ?vd28) rfl (by kernel_rfl) (by kernel_rfl) (by kernel_rfl) (fun _ _ _ h => h) (Or.inl ⟨by rfl, ?yd28⟩) (by assumption) ?rd28
      case yd28 =>
        intro w hSw
        (try dsimp only at hSw)
        go_simp
        first | done | with_reducible rfl
      try simp only [Act.put, List.getElem_toArray, List.getElem_cons_zero, List.getElem_cons_succ, List.setIfInBounds_toArray, List.set_cons_zero, List.set_cons_succ]
      refine wpAnyH_take (i := 29) (v := ?vd29) rfl (by kernel_rfl) (by kernel_rfl) (by kernel_rfl) (fun _ _ _ h => h) (Or.inl ⟨by rfl, ?yd29⟩) (by assumption) ?rd29
      case yd29 =>
        intro w hSw
        (try dsimp only at hSw)
        go_simp
        first | done | with_reducible rfl
      try simp only [Act.put, List.getElem_toArray, List.getElem_cons_zero, List.getElem_cons_succ, List.setIfInBounds_toArray, List.set_cons_zero, List.set_cons_succ]
      refine wpAnyH_take (i := 30) (v := ?vd30) rfl (by kernel_rfl) (by kernel_rfl) (by kernel_rfl) (fun _ _ _ h => h) (Or.inl ⟨by rfl, ?yd30⟩) (by assumption) ?rd30
      case yd30 =>
        intro w hSw
        (try dsimp only at hSw)
        go_simp
        first | done | with_reducible rfl
      try simp only [Act.put, List.getElem_toArray, List.getElem_cons_zero, List.getElem_cons_succ, List.setIfInBounds_toArray, List.set_cons_zero, List.set_cons_succ]
      refine wpAnyH_take (i := 31) (v := ?vd31) rfl (by kernel_rfl) (by kernel_rfl) (by kernel_rfl) (fun _ _ _ h => h) (Or.inl ⟨by rfl, ?yd31⟩) (by assumption) ?rd31
      case yd31 =>
        intro w hSw
        (try dsimp only at hSw)
        go_simp
        first | done | with_reducible rfl
      try simp only [Act.put, List.getElem_toArray, List.getElem_cons_zero, List.getElem_cons_succ, List.setIfInBounds_toArray, List.set_cons_zero, List.set_cons_succ]
      refine wpAnyH_take (i := 32) (v := ?vd32) rfl (by kernel_rfl) (by kernel_rfl) (by kernel_rfl) (fun _ _ _ h => h) (Or.inl ⟨by rfl, ?yd32⟩) (by assumption) ?rd32
      case yd32 =>
        intro w hSw
        (try dsimp only at hSw)
        go_simp
        first | done | with_reducible rfl
      try simp only [Act.put, List.getElem_toArray, List.getElem_cons_zero, List.getElem_cons_succ, List.setIfInBounds_toArray, List.set_cons_zero, List.set_cons_succ]
      refine wpAnyH_take (i := 33) (v := ?vd33) rfl (by kernel_rfl) (by kernel_rfl) (by kernel_rfl) (fun _ _ _ h => h) (Or.inl ⟨by rfl, ?yd33⟩) (by assumption) ?rd33
      case yd33 =>
        intro w hSw
        (try dsimp only at hSw)
        go_simp
        first | done | with_reducible rfl
      try simp only [Act.put, List.getElem_toArray, List.getElem_cons_zero, List.getElem_cons_succ, List.setIfInBounds_toArray, List.set_cons_zero, List.set_cons_succ]
      refine wpAnyH_take (i := 34) (v := ?vd34) rfl (by kernel_rfl) (by kernel_rfl) (by kernel_rfl) (fun _ _ _ h => h) (Or.inl ⟨by rfl, ?yd34⟩) (by assumption) ?rd34
      case yd34 =>
        intro w hSw
        (try dsimp only at hSw)
        go_simp
        first | done | with_reducible rfl
      try simp only [Act.put, List.getElem_toArray, List.getElem_cons_zero, List.getElem_cons_succ, List.setIfInBounds_toArray, List.set_cons_zero, List.set_cons_succ]
      refine wpAnyH_take (i := 35) (v := ?vd35) rfl (by kernel_rfl) (by kernel_rfl) (by kernel_rfl) (fun _ _ _ h => h) (Or.inl ⟨by rfl, ?yd35⟩) (by assumption) ?rd35
      case yd35 =>
        intro w hSw
        (try dsimp only at hSw)
        go_simp
        first | done | with_reducible rfl
      try simp only [Act.put, List.getElem_toArray, List.getElem_cons_zero, List.getElem_cons_succ, List.setIfInBounds_toArray, List.set_cons_zero, List.set_cons_succ]
      refine wpAnyH_take (i := 36) (v := ?vd36) rfl (by kernel_rfl) (by kernel_rfl) (by kernel_rfl) (fun _ _ _ h => h) (Or.inl ⟨by rfl, ?yd36⟩) (by assumption) ?rd36
      case yd36 =>
        intro w hSw
        (try dsimp only at hSw)
        go_simp
        first | done | with_reducible rfl
      try simp only [Act.put, List.getElem_toArray, List.getElem_cons_zero, List.getElem_cons_succ, List.setIfInBounds_toArray, List.set_cons_zero, List.set_cons_succ]
      refine wpAnyH_take (i := 37) (v := ?vd37) rfl (by kernel_rfl) (by kernel_rfl) (by kernel_rfl) (fun _ _ _ h => h) (Or.inl ⟨by rfl, ?yd37⟩) (by assumption) ?rd37
      case yd37 =>
        intro w hSw
        (try dsimp only at hSw)
        go_simp
        first | done | with_reducible rfl
      try simp only [Act.put, List.getElem_toArray, List.getElem_cons_zero, List.getElem_cons_succ, List.setIfInBounds_toArray, List.set_cons_zero, List.set_cons_succ]
      refine wpAnyH_take (i := 38) (v := ?vd38) rfl (by kernel_rfl) (by kernel_rfl) (by kernel_rfl) (fun _ _ _ h => h) (Or.inl ⟨by rfl, ?yd38⟩) (by assumption) ?rd38
      case yd38 =>
        intro w hSw
        (try dsimp only at hSw)
        go_simp
        first | done | with_reducible rfl
      try simp only [Act.put, List.getElem_toArray, List.getElem_cons_zero, List.getElem_cons_succ, List.setIfInBounds_toArray, List.set_cons_zero, List.set_cons_succ]
      refine wpAnyH_done (by kernel_rfl) ?_ _
      go_wp2_with fail
      go_roundw
      case rel => exact ⟨k + 1, by omega, by go_num, hbr.drew⟩
      case measure => simp [intOf]; omega
    · obtain rfl : k = l.length := by omega
      go_wp2_with fail
      go_ret
      exact ⟨rfl, hbr⟩

end Go.Proofs.YtffhfllikamccaaGreatDoor
namespace Go.Proofs.YtffhfllikamccaaGreatDoor
open Go Go.RowKit Go.Shelf Go.Proofs
attribute [local go_sem] Oper.semAt_some

/-- One change more in a row of the call's own. -/
theorem wp_append_delta {o : Oper} {a : Act} {w : World} {K : Act → World → Prop} {Q : Exit → Act → World → Prop} (s y : Operand)
    (ho : o.op = .call { callee := .builtin .append, args := #[s, y], argTypes := #[39, 39] })
    (base : Nat) (v : Value) (l : List DX) (x : DX) (g c : Nat) (hs : a.eval s = v) (hown : RowD base w v l) (hx : a.eval y = .slice (some ⟨g, 0, none⟩) 1 c) (hb : BoxD w g x) (hl : l.length ≤ 1000000) (hbase : base ≤ w.heap.size)
    (h : ∀ v' w', RowD base w' v' (l ++ [x]) → w.grownBy w' v.ownBlock → K (a.put o.dst v') w') : Oper.wp Tryz.prog o a w K Q := by
  obtain ⟨i0, hi, hz0, hz1, hz2⟩ := info_parts delta_info
  refine wp_append_own w s y 39 ho base 62 i0 (.agg #[.int .i64 0, .string ⟨#[]⟩, .slice none 0 0]) 3 48 Tryz.underlying39 hi hz0 hz1 hz2 rfl (by decide) v l.length (dcells l) hs hown ⟨g, 0, none⟩ 1 c x.cs hx rfl ?_ ?_ (by unfold maxLen; omega) (by omega) hbase fun v' w' h1 h2 _ => h v' w' ?_ h2
  · intro j u hu
    rw [Go.WideShapes.add_plain, Nat.zero_add]
    match j, hu with
    | 0, hu => obtain rfl : Value.int .i64 x.k = u := by simpa [DX.cs] using hu
               exact hb.c0
    | 1, hu => obtain rfl : Value.string x.p = u := by simpa [DX.cs] using hu
               exact hb.c1
    | 2, hu => obtain rfl : Value.slice x.A x.b.length x.c = u := by simpa [DX.cs] using hu
               exact hb.c2
    | j + 3, hu => simp [DX.cs] at hu
  · intro u hu
    simp only [DX.cs, List.mem_cons, List.mem_nil_iff, or_false] at hu
    rcases hu with rfl | rfl | rfl <;> rfl
  · show World.ownsRow _ _ _ _ _ _ _
    rw [List.length_append, dcells_append]
    have e : dcells [x] = x.cs := by unfold dcells; simp
    rw [e]; exact h1
theorem wpList_append_delta {ops : Array Oper} {rest : List Oper} {o : Oper} {a : Act} {w : World} {Q : Exit → Act → World → Prop} (hgd : o.guard = none) (s y : Operand)
    (ho : o.op = .call { callee := .builtin .append, args := #[s, y], argTypes := #[39, 39] })
    (base : Nat) (v : Value) (l : List DX) (x : DX) (g c : Nat) (hs : a.eval s = v) (hown : RowD base w v l) (hx : a.eval y = .slice (some ⟨g, 0, none⟩) 1 c) (hb : BoxD w g x) (hl : l.length ≤ 1000000) (hbase : base ≤ w.heap.size)
    (h : ∀ v' w', RowD base w' v' (l ++ [x]) → w.grownBy w' v.ownBlock → wpList Tryz.prog ops Q rest (a.put o.dst v') w') : wpList Tryz.prog ops Q (o :: rest) a w :=
  wpList_plain hgd fun _ hK => wp_append_delta s y ho base v l x g c hs hown hx hb hl hbase fun v' w' h2 h3 => hK _ _ (h v' w' h2 h3)
theorem step_append_delta {ops : Array Oper} {o : Oper} {a : Act} {w : World} {K : Act → World → Prop} {Q : Exit → Act → World → Prop} {E : Prop} (hgd : o.guard = none) (s y : Operand)
    (ho : o.op = .call { callee := .builtin .append, args := #[s, y], argTypes := #[39, 39] })
    (base : Nat) (v : Value) (l : List DX) (x : DX) (g c : Nat) (hs : a.eval s = v) (hown : RowD base w v l) (hx : a.eval y = .slice (some ⟨g, 0, none⟩) 1 c) (hb : BoxD w g x) (hl : l.length ≤ 1000000) (hbase : base ≤ w.heap.size)
    (h : ∀ v' w', RowD base w' v' (l ++ [x]) → w.grownBy w' v.ownBlock → K (a.put o.dst v') w') : if Region.wanted o (yielded ops a.tmps) = true then Oper.wp Tryz.prog o a w K Q else E := by
  rw [if_pos (by simp [Region.wanted, hgd])]
  exact wp_append_delta s y ho base v l x g c hs hown hx hb hl hbase h
theorem RowD.slice {base : Nat} {w : World} {v : Value} {l : List DX} (h : RowD base w v l) : ∃ A c, v = .slice A l.length c := by
  have hown : w.ownsRow base 62 3 v l.length (dcells l) := h
  rcases hown.2 with ⟨rfl, h0⟩ | ⟨g, cap, cur, rfl, _⟩
  · exact ⟨none, 0, by rw [h0]⟩
  · exact ⟨_, _, rfl⟩
theorem RowD.below {base : Nat} {w w' : World} {v : Value} {l : List DX} (h : RowD base w v l) (hb : Below w.heap.size w w') : RowD base w' v l := World.ownsRow.kept h (grownN hb none) (by cases v.ownBlock <;> simp)

/-- Where the document's Diff stands: at i of the one, at k of the other one. -/
structure DInv (a b : List FX) (w : World) (i k : Nat) (outs : List DX) : Prop where
  eq : outs.map DX.dl ++ diffT ((flsX a).drop i) ((flsX b).drop k) = diffT (flsX a) (flsX b)
  len : outs.length ≤ i + k
  bytes : ∀ x ∈ outs, BytesAt w x.A x.b
theorem fls_drop {a : List FX} {i : Nat} {x : FX} (hx : a[i]? = some x) : (flsX a).drop i = x.fl :: (flsX a).drop (i + 1) := by
  have h : (flsX a)[i]? = some x.fl := by rw [flsX_getElem?, hx]; rfl
  obtain ⟨hl, e⟩ := List.getElem?_eq_some_iff.1 h
  rw [List.drop_eq_getElem_cons hl, e]
theorem fls_over {a : List FX} {i : Nat} (h : a.length ≤ i) : (flsX a).drop i = [] := List.drop_of_length_le (by rw [flsX_length]; exact h)
theorem DInv.push {a b : List FX} {w : World} {i k i' k' : Nat} {outs : List DX} {d : DX} (h : DInv a b w i k outs) (hd : diffT ((flsX a).drop i) ((flsX b).drop k) = d.dl :: diffT ((flsX a).drop i') ((flsX b).drop k')) (hl : i + k + 1 ≤ i' + k') (hb : BytesAt w d.A d.b) : DInv a b w i' k' (outs ++ [d]) := by
  refine ⟨?_, by rw [List.length_append, List.length_singleton]; have := h.len; omega, fun x hx => ?_⟩
  · rw [List.map_append, List.append_assoc, ← h.eq, hd]; rfl
  · rcases List.mem_append.1 hx with hx | hx
    · exact h.bytes x hx
    · obtain rfl := List.mem_singleton.1 hx; exact hb
theorem DInv.pass {a b : List FX} {w : World} {i k i' k' : Nat} {outs : List DX} (h : DInv a b w i k outs) (hd : diffT ((flsX a).drop i) ((flsX b).drop k) = diffT ((flsX a).drop i') ((flsX b).drop k')) (hl : i + k ≤ i' + k') : DInv a b w i' k' outs :=
  ⟨by rw [← h.eq, hd], by have := h.len; omega, h.bytes⟩
theorem dstep_end {a b : List FX} {i k : Nat} {x : FX} (hx : a[i]? = some x) (hk : b.length ≤ k) : diffT ((flsX a).drop i) ((flsX b).drop k) = ⟨3, x.p.data.toList, []⟩ :: diffT ((flsX a).drop (i + 1)) ((flsX b).drop k) := by
  rw [fls_drop hx, fls_over hk, diffT]; rfl
theorem dstep_del {a b : List FX} {i k : Nat} {x y : FX} (hx : a[i]? = some x) (hy : b[k]? = some y) (hlt : ltB x.p.data.toList y.p.data.toList = true) : diffT ((flsX a).drop i) ((flsX b).drop k) = ⟨3, x.p.data.toList, []⟩ :: diffT ((flsX a).drop (i + 1)) ((flsX b).drop k) := by
  rw [fls_drop hx, fls_drop hy, diffT]
  rw [if_neg (by show ¬ (x.p.data.toList == y.p.data.toList) = true; rw [beq_eq_false_iff_ne.2 (ltB_ne _ _ hlt)]; decide), if_pos (show ltB x.fl.1 y.fl.1 = true from hlt)]; rfl
theorem dstep_same {a b : List FX} {i k : Nat} {x y : FX} (hx : a[i]? = some x) (hy : b[k]? = some y) (he : (x.p.toList == y.p.toList) = true) (hb : (x.b == y.b) = true) : diffT ((flsX a).drop i) ((flsX b).drop k) = diffT ((flsX a).drop (i + 1)) ((flsX b).drop (k + 1)) := by
  rw [ByteArray.toList_eq, ByteArray.toList_eq] at he
  rw [fls_drop hx, fls_drop hy, diffT, if_pos (show (x.fl.1 == y.fl.1) = true from he), if_pos (show (x.fl.2 == y.fl.2) = true from hb)]
theorem dstep_mod {a b : List FX} {i k : Nat} {x y : FX} (hx : a[i]? = some x) (hy : b[k]? = some y) (he : (x.p.toList == y.p.toList) = true) (hb : (x.b == y.b) = false) : diffT ((flsX a).drop i) ((flsX b).drop k) = ⟨2, y.p.data.toList, y.b⟩ :: diffT ((flsX a).drop (i + 1)) ((flsX b).drop (k + 1)) := by
  rw [ByteArray.toList_eq, ByteArray.toList_eq] at he
  rw [fls_drop hx, fls_drop hy, diffT, if_pos (show (x.fl.1 == y.fl.1) = true from he), if_neg (by show ¬ (x.b == y.b) = true; rw [hb]; decide)]; rfl
theorem dstep_add {a b : List FX} {i k : Nat} {x y : FX} (hx : a[i]? = some x) (hy : b[k]? = some y) (he : (x.p.toList == y.p.toList) = false) (hlt : ltB x.p.data.toList y.p.data.toList = false) : diffT ((flsX a).drop i) ((flsX b).drop k) = ⟨1, y.p.data.toList, y.b⟩ :: diffT ((flsX a).drop i) ((flsX b).drop (k + 1)) := by
  rw [ByteArray.toList_eq, ByteArray.toList_eq] at he
  rw [fls_drop hx, fls_drop hy, diffT]
  rw [if_neg (by show ¬ (x.p.data.toList == y.p.data.toList) = true; rw [he]; decide), if_neg (by show ¬ ltB x.p.data.toList y.p.data.toList = true; rw [hlt]; decide)]; rfl
theorem dstep_last {a b : List FX} {i k : Nat} {y : FX} (hi : a.length ≤ i) (hy : b[k]? = some y) : diffT ((flsX a).drop i) ((flsX b).drop k) = ⟨1, y.p.data.toList, y.b⟩ :: diffT ((flsX a).drop i) ((flsX b).drop (k + 1)) := by
  rw [fls_over hi, fls_drop hy, diffT]; rfl
theorem DInv.done {a b : List FX} {w : World} {i k : Nat} {outs : List DX} (h : DInv a b w i k outs) (hi : a.length ≤ i) (hk : b.length ≤ k) : outs.map DX.dl = diffT (flsX a) (flsX b) := by
  have := h.eq
  rw [fls_over hi, fls_over hk, diffT, List.append_nil] at this
  exact this
end Go.Proofs.YtffhfllikamccaaGreatDoor
