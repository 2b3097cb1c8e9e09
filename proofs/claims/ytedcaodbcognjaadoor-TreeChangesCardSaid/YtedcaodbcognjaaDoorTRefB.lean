/-
  The contracts of the document's own answers of layer 2: Same, Right.
-/
import Derived.Test.YtedcaodbcognjaaDoorTRefA
import Derived.Test.YtedcaodbcognjaaDoorTRefUnder
import Derived.BigRegion
import Derived.Deep.RegionHeld3
import Derived.BigQuiet
namespace Go.Proofs.YtedcaodbcognjaaDoor
open Go Go.RowKit Go.Shelf Go.Proofs
attribute [local go_sem] Oper.semAt_some

theorem fls_take_eq {a b : List FX} {k : Nat} {x y : FX} (h : (flsX a).take k = (flsX b).take k) (hx : a[k]? = some x) (hy : b[k]? = some y) (h1 : (x.p.toList == y.p.toList) = true) (h2 : (x.b == y.b) = true) : (flsX a).take (k + 1) = (flsX b).take (k + 1) := by
  rw [List.take_add_one, List.take_add_one, h, flsX_getElem?, flsX_getElem?, hx, hy]
  rw [beq_iff_eq, ByteArray.toList_eq, ByteArray.toList_eq] at h1
  have e : x.fl = y.fl := Prod.ext h1 (beq_iff_eq.1 h2)
  show _ ++ (some x.fl).toList = _ ++ (some y.fl).toList
  rw [e]
theorem fls_ne_at {a b : List FX} {k : Nat} {x y : FX} (hx : a[k]? = some x) (hy : b[k]? = some y) (h : (x.p.toList == y.p.toList) = false ∨ (x.b == y.b) = false) : decide (flsX a = flsX b) = false := decide_eq_false fun e => by
  have e2 : (flsX a)[k]? = (flsX b)[k]? := by rw [e]
  rw [flsX_getElem?, flsX_getElem?, hx, hy] at e2
  have e3 : x.fl = y.fl := Option.some.inj e2
  rcases h with h | h
  · rw [beq_eq_false_iff_ne, ByteArray.toList_eq, ByteArray.toList_eq] at h
    exact h (congrArg (·.1) e3)
  · rw [beq_eq_false_iff_ne] at h
    exact h (congrArg (·.2) e3)

set_option maxRecDepth 100000 in
set_option maxHeartbeats 8000000 in
theorem refsame_any (a b : List FX) (A B : Option Addr) (ca cb : Nat) (w : World) (ha : TreeAt w A ca a) (hb : TreeAt w B cb b) (la : a.length ≤ 100000) (_lb : b.length ≤ 100000) :
    Calls Tryd.prog 17 #[.slice A a.length ca, .slice B b.length cb] w fun e w' => e = .returned (.bool (decide (flsX a = flsX b))) ∧ Below w.heap.size w w' := by
  have HA := Lib.hid ha; clear ha
  have HB := Lib.hid hb; clear hb
  by_cases hlen : a.length = b.length
  · have h0 : ((a.length : Int) == (b.length : Int)) = true := by rw [beq_iff_eq]; omega
    go_enter Tryd.func17, Tryd.ntmps17
    go_wp2_with fail
    go_loopw [5] (fun i wr => ∃ (k : Nat), k ≤ a.length ∧ i = .int .i64 k ∧ (flsX a).take k = (flsX b).take k ∧ Below w.heap.size w wr) (fun i _ => a.length - (intOf i).toNat)
    case atStart => exact ⟨0, Nat.zero_le _, rfl, rfl, Below.refl _ _⟩
    case round =>
      obtain ⟨k, hk, rfl, heq, hbr⟩ := hrel
      by_cases h1 : k < a.length
      · obtain ⟨x, hx⟩ : ∃ x, a[k]? = some x := ⟨_, List.getElem?_eq_getElem h1⟩
        obtain ⟨y, hy⟩ : ∃ y, b[k]? = some y := ⟨_, List.getElem?_eq_getElem (by omega)⟩
        have htA := HA.out.below hbr
        have htB := HB.out.below hbr
        obtain ⟨g, o, eA, hr⟩ := htA.row (by omega)
        subst eA
        obtain ⟨g', o', eB, hr'⟩ := htB.row (by omega)
        subst eB
        obtain ⟨c1, c2⟩ := hr k x hx
        obtain ⟨d1, d2⟩ := hr' k y hy
        have s1 := run_str wr.drew x.A x.c x.b ((htA.files x (List.mem_of_getElem? hx)).below (below_drew1 wr))
        have s2 := run_str wr.drew y.A y.c y.b ((htB.files y (List.mem_of_getElem? hy)).below (below_drew1 wr))
        have he := mkB_eq x.b y.b
        have k1 : (k : Int) < (a.length : Int) := by omega
        have k2 : (k : Int) < (b.length : Int) := by omega
        have wk : IntKind.i64.wrap (k : Int) = (k : Int) := IntWalk.i64_in _ (by omega)
        have HX := Lib.hid hx; clear hx
        have HY := Lib.hid hy; clear hy
        have HEQ := Lib.hid heq; clear heq
        clear hr hr' htA htB
        cases hq : (x.p.toList == y.p.toList) with
        | false =>
          have hf := fls_ne_at HX.out HY.out (.inl hq)
          have HF := Lib.hid hf; clear hf
          go_wp2_with fail
          go_region
          go_wp2_with fail
          go_ret
          exact ⟨by rw [HF.out]; rfl, hbr.drew⟩
        | true =>
          cases hq2 : (x.b == y.b) with
          | false =>
            have hf := fls_ne_at HX.out HY.out (.inr hq2)
            have HF := Lib.hid hf; clear hf
            rw [hq2] at he
            go_wp2_with fail
            go_region
            go_wp2_with fail
            go_ret
            exact ⟨by rw [HF.out]; rfl, hbr.drew⟩
          | true =>
            have hn := fls_take_eq HEQ.out HX.out HY.out hq hq2
            have HN := Lib.hid hn; clear hn
            rw [hq2] at he
            go_wp2_with fail
            go_region
            go_wp2_with fail
            go_roundw
            case rel => exact ⟨k + 1, by omega, by go_num, HN.out, hbr.drew⟩
            case measure => simp [intOf]; omega
      · obtain rfl : k = a.length := by omega
        have hf : decide (flsX a = flsX b) = true := decide_eq_true (by
          rw [List.take_of_length_le (by rw [flsX_length]; omega), List.take_of_length_le (by rw [flsX_length]; omega)] at heq
          exact heq)
        have HF := Lib.hid hf; clear hf heq
        go_wp2_with fail
        go_ret
        exact ⟨by rw [HF.out]; rfl, hbr⟩
  · have h0 : ((a.length : Int) == (b.length : Int)) = false := by rw [beq_eq_false_iff_ne]; omega
    have hf : decide (flsX a = flsX b) = false := decide_eq_false fun e => hlen (by have := congrArg List.length e; rwa [flsX_length, flsX_length] at this)
    have HF := Lib.hid hf; clear hf
    go_enter Tryd.func17, Tryd.ntmps17
    go_wp2_with fail
    go_ret
    exact ⟨by rw [HF.out]; rfl, Below.refl _ _⟩

/-- What Right has seen of the files ahead of k. -/
def SeenR (l : List FX) (k : Nat) : Prop := ∀ (i : Nat) (x : Fl), i < k → (flsX l)[i]? = some x → okF x = true ∧ ∀ (q : Nat) (y : Fl), q < i → (flsX l)[q]? = some y → aheadB y x = true

set_option maxRecDepth 100000 in
set_option maxHeartbeats 8000000 in
theorem reftright_any (l : List FX) (A : Option Addr) (c : Nat) (w : World) (h : TreeAt w A c l) (hs : SmallX l) :
    Calls Tryd.prog 36 #[.slice A l.length c] w fun e w' => e = .returned (.bool (rightT (flsX l))) ∧ Below w.heap.size w w' := by
  have HT := Lib.hid h; clear h
  have HS := Lib.hid hs.2
  have hl := hs.1
  clear hs
  go_enter Tryd.func36, Tryd.ntmps36
  go_wp2_with fail
  go_loopw [3, 4] (fun i _ wr => ∃ (k : Nat), k ≤ l.length ∧ i = .int .i64 k ∧ SeenR l k ∧ Below w.heap.size w wr) (fun i _ _ => l.length - (intOf i).toNat)
  case atStart => exact ⟨0, Nat.zero_le _, rfl, fun _ _ h => absurd h (Nat.not_lt_zero _), Below.refl _ _⟩
  case round =>
    obtain ⟨k, hk, rfl, hseen, hbr⟩ := hrel
    by_cases h1 : k < l.length
    · obtain ⟨x, hx⟩ : ∃ x, l[k]? = some x := ⟨_, List.getElem?_eq_getElem h1⟩
      obtain ⟨g, o, eA, hr⟩ := HT.out.row (by omega)
      subst eA
      have hr2 := hr.below hbr
      obtain ⟨c1, c2⟩ := hr2 k x hx
      have hgl : g < wr.heap.size := World.block_lt_of_cell? wr (a := ⟨g, o + k * 2, none⟩) c1
      have hxs := HS.out x (List.mem_of_getElem? hx)
      have hfx : (flsX l)[k]? = some x.fl := by rw [flsX_getElem?, hx]; rfl
      have k1 : (k : Int) < (l.length : Int) := by omega
      have wk : IntKind.i64.wrap (k : Int) = (k : Int) := IntWalk.i64_in _ (by omega)
      have HX := Lib.hid hx; clear hx
      have HFX := Lib.hid hfx; clear hfx
      have HSEEN := Lib.hid hseen; clear hseen
      have HR := Lib.hid hr2; clear hr2
      clear hr
      have HRR := Lib.hid (refright_any x.p wr (by omega))
      cases hrx : rightB x.p.data.toList with
      | false =>
        have hf := right_bad HFX.out hrx
        have HF := Lib.hid hf; clear hf
        have HRX := Lib.hid hrx; clear hrx
        go_wp2_with fail
        refine HRR.out.mono ?_
        rw [HRX.out]
        rintro e w1 ⟨rfl, hq1⟩
        go_wp2_with fail
        go_ret
        exact ⟨by rw [HF.out]; rfl, hbr.trans (hq1.mono hbr.size)⟩
      | true =>
        have HRX := Lib.hid hrx; clear hrx
        go_wp2_with fail
        refine HRR.out.mono ?_
        rw [HRX.out]
        rintro e w1 ⟨rfl, hq1⟩
        have c2 := (hq1.cell (p := ⟨g, o + k * 2 + 1, none⟩) hgl).trans c2
        have hb1 := hbr.trans (hq1.mono hbr.size)
        by_cases hz : 65536 < x.b.length
        · have hz2 : (65536 : Int) < (x.b.length : Int) := by omega
          have hf : rightT (flsX l) = false := right_long (by
            unfold longT
            rw [Bool.or_eq_true]
            exact .inr (List.any_eq_true.2 ⟨x.fl, List.mem_of_getElem? HFX.out, decide_eq_true hz⟩))
          have HF := Lib.hid hf; clear hf
          go_wp2_with fail
          go_ret
          exact ⟨by rw [HF.out]; rfl, hb1⟩
        · have hz2 : ¬ (65536 : Int) < (x.b.length : Int) := by omega
          have hok : okF x.fl = true := by
            unfold okF
            rw [Bool.and_eq_true, decide_eq_true_eq]
            exact ⟨HRX.out, by show x.b.length ≤ 65536; omega⟩
          have HOK := Lib.hid hok; clear hok
          have HR1 := Lib.hid (HR.out.below hq1)
          have HB1 := Lib.hid hb1; clear hb1
          go_wp2_with fail
          clear c1 c2 hq1
          go_loopw [4] (fun j wr => ∃ (m : Nat), m ≤ k ∧ j = .int .i64 m ∧ (∀ (q : Nat) (y : Fl), q < m → (flsX l)[q]? = some y → aheadB y x.fl = true) ∧ Below w1.heap.size w1 wr) (fun j _ => k - (intOf j).toNat)
          case atStart => exact ⟨0, Nat.zero_le _, rfl, fun _ _ h => absurd h (Nat.not_lt_zero _), Below.refl _ _⟩
          case round =>
            obtain ⟨m, hm, rfl, hah, hbi⟩ := hrel
            by_cases h2 : m < k
            · obtain ⟨y, hy⟩ : ∃ y, l[m]? = some y := ⟨_, List.getElem?_eq_getElem (by omega)⟩
              have hri := HR1.out.below hbi
              obtain ⟨c1, _⟩ := hri k x HX.out
              obtain ⟨d1, _⟩ := hri m y hy
              have hys := HS.out y (List.mem_of_getElem? hy)
              have hfy : (flsX l)[m]? = some y.fl := by rw [flsX_getElem?, hy]; rfl
              have m1 : (m : Int) < (l.length : Int) := by omega
              have m2 : (m : Int) < (k : Int) := by omega
              have wm : IntKind.i64.wrap (m : Int) = (m : Int) := IntWalk.i64_in _ (by omega)
              have HAH := Lib.hid hah; clear hah
              have HFY := Lib.hid hfy; clear hfy
              clear hri hy
              cases hlt : ltB y.p.data.toList x.p.data.toList with
              | false =>
                have hf := right_falls h2 HFX.out HFY.out (by unfold aheadB; show (ltB y.p.data.toList x.p.data.toList && _) = false; rw [hlt]; rfl)
                have HF := Lib.hid hf; clear hf
                have hq : Op.bytesLess y.p.toList x.p.toList = false := by rw [ByteArray.toList_eq, ByteArray.toList_eq]; exact hlt
                clear hlt
                go_wp2_with fail
                go_region
                go_wp2_with fail
                go_ret
                exact ⟨by rw [HF.out]; rfl, HB1.out.trans ((hbi.drew).mono HB1.out.size)⟩
              | true =>
                have hq : Op.bytesLess y.p.toList x.p.toList = true := by rw [ByteArray.toList_eq, ByteArray.toList_eq]; exact hlt
                have HU := Lib.hid (refunderL_any x.p y.p wr.drew (by omega) (by omega))
                have HLT := Lib.hid hlt; clear hlt
                go_wp2_with fail
                refine wp_region_held_drew (S := (fun w' => w'.cell? ⟨g, o + k * 2, none⟩ = some (.string x.p) ∧ w'.cell? ⟨g, o + m * 2, none⟩ = some (.string y.p))) (by kernel_rfl) ⟨c1, d1⟩ (fun hHeld => ?_)
                refine wpAnyH_take (i := 0) (v := ?vu0) rfl (by kernel_rfl) (by kernel_rfl) (by kernel_rfl) (fun _ _ _ h => h) (Or.inl ⟨by rfl, ?yu0⟩) (by assumption) ?ru0
                case yu0 =>
                  intro w hSw
                  (try dsimp only at hSw)
                  go_simp
                  first | done | with_reducible rfl
                try simp only [Act.put, List.getElem_toArray, List.getElem_cons_zero, List.setIfInBounds_toArray, List.set_cons_zero, List.set_cons_succ]
                refine wpAnyH_take (i := 1) (v := ?vu1) rfl (by kernel_rfl) (by kernel_rfl) (by kernel_rfl) (fun _ _ _ h => h) (Or.inl ⟨by rfl, ?yu1⟩) (by assumption) ?ru1
                case yu1 =>
                  intro w hSw
                  (try dsimp only at hSw)
                  go_simp
                  first | done | with_reducible rfl
                try simp only [Act.put, List.getElem_toArray, List.getElem_cons_zero, List.getElem_cons_succ, List.setIfInBounds_toArray, List.set_cons_zero, List.set_cons_succ]
                refine wpAnyH_take (i := 2) (v := ?vu2) rfl (by kernel_rfl) (by kernel_rfl) (by kernel_rfl) (fun _ _ _ h => h) (Or.inl ⟨by rfl, ?yu2⟩) (by assumption) ?ru2
                case yu2 =>
                  intro w hSw
                  (try dsimp only at hSw)
                  go_simp
                  first | done | with_reducible rfl
                try simp only [Act.put, List.getElem_toArray, List.getElem_cons_zero, List.getElem_cons_succ, List.setIfInBounds_toArray, List.set_cons_zero, List.set_cons_succ]
                refine wpAnyH_take (i := 3) (v := ?vu3) rfl (by kernel_rfl) (by kernel_rfl) (by kernel_rfl) (fun _ _ _ h => h) (Or.inl ⟨by rfl, ?yu3⟩) (by assumption) ?ru3
                case yu3 =>
                  intro w hSw
                  (try dsimp only at hSw)
                  go_simp
                  first | done | with_reducible rfl
                try simp only [Act.put, List.getElem_toArray, List.getElem_cons_zero, List.getElem_cons_succ, List.setIfInBounds_toArray, List.set_cons_zero, List.set_cons_succ]
                refine wpAnyH_take (i := 4) (v := ?vu4) rfl (by kernel_rfl) (by kernel_rfl) (by kernel_rfl) (fun _ _ _ h => h) (Or.inl ⟨by rfl, ?yu4⟩) (by assumption) ?ru4
                case yu4 =>
                  intro w hSw
                  (try dsimp only at hSw)
                  go_simp
                  first | done | with_reducible rfl
                try simp only [Act.put, List.getElem_toArray, List.getElem_cons_zero, List.getElem_cons_succ, List.setIfInBounds_toArray, List.set_cons_zero, List.set_cons_succ]
                refine wpAnyH_take (i := 5) (v := ?vu5) rfl (by kernel_rfl) (by kernel_rfl) (by kernel_rfl) (fun _ _ _ h => h) (Or.inl ⟨by rfl, ?yu5⟩) (by assumption) ?ru5
                case yu5 =>
                  intro w hSw
                  (try dsimp only at hSw)
                  go_simp
                  first | done | with_reducible rfl
                try simp only [Act.put, List.getElem_toArray, List.getElem_cons_zero, List.getElem_cons_succ, List.setIfInBounds_toArray, List.set_cons_zero, List.set_cons_succ]
                refine wpAnyH_take (i := 6) (v := ?vu6) rfl (by kernel_rfl) (by kernel_rfl) (by kernel_rfl) (fun _ _ _ h => h) (Or.inl ⟨by rfl, ?yu6⟩) (by assumption) ?ru6
                case yu6 =>
                  intro w hSw
                  (try dsimp only at hSw)
                  go_simp
                  first | done | with_reducible rfl
                try simp only [Act.put, List.getElem_toArray, List.getElem_cons_zero, List.getElem_cons_succ, List.setIfInBounds_toArray, List.set_cons_zero, List.set_cons_succ]
                refine wpAnyH_take (i := 7) (v := ?vu7) rfl (by kernel_rfl) (by kernel_rfl) (by kernel_rfl) (fun _ _ _ h => h) (Or.inl ⟨by rfl, ?yu7⟩) (by assumption) ?ru7
                case yu7 =>
                  intro w hSw
                  (try dsimp only at hSw)
                  go_simp
                  first | done | with_reducible rfl
                try simp only [Act.put, List.getElem_toArray, List.getElem_cons_zero, List.getElem_cons_succ, List.setIfInBounds_toArray, List.set_cons_zero, List.set_cons_succ]
                refine wpAnyH_take (i := 8) (v := ?vu8) rfl (by kernel_rfl) (by kernel_rfl) (by kernel_rfl) (fun _ _ _ h => h) (Or.inl ⟨by rfl, ?yu8⟩) (by assumption) ?ru8
                case yu8 =>
                  intro w hSw
                  (try dsimp only at hSw)
                  go_simp
                  first | done | with_reducible rfl
                try simp only [Act.put, List.getElem_toArray, List.getElem_cons_zero, List.getElem_cons_succ, List.setIfInBounds_toArray, List.set_cons_zero, List.set_cons_succ]
                refine wpAnyH_take (i := 9) (v := ?vu9) rfl (by kernel_rfl) (by kernel_rfl) (by kernel_rfl) (fun _ _ _ h => h) (Or.inl ⟨by rfl, ?yu9⟩) (by assumption) ?ru9
                case yu9 =>
                  intro w hSw
                  (try dsimp only at hSw)
                  go_simp
                  first | done | with_reducible rfl
                try simp only [Act.put, List.getElem_toArray, List.getElem_cons_zero, List.getElem_cons_succ, List.setIfInBounds_toArray, List.set_cons_zero, List.set_cons_succ]
                refine wpAnyH_take (i := 10) (v := ?vu10) rfl (by kernel_rfl) (by kernel_rfl) (by kernel_rfl) (fun _ _ _ h => h) (Or.inl ⟨by rfl, ?yu10⟩) (by assumption) ?ru10
                case yu10 =>
                  intro w hSw
                  (try dsimp only at hSw)
                  go_simp
                  first | done | with_reducible rfl
                try simp only [Act.put, List.getElem_toArray, List.getElem_cons_zero, List.getElem_cons_succ, List.setIfInBounds_toArray, List.set_cons_zero, List.set_cons_succ]
                refine wpAnyH_take (i := 11) (v := ?vu11) rfl (by kernel_rfl) (by kernel_rfl) (by kernel_rfl) (fun _ _ _ h => h) (Or.inl ⟨by rfl, ?yu11⟩) (by assumption) ?ru11
                case yu11 =>
                  intro w hSw
                  (try dsimp only at hSw)
                  go_simp
                  first | done | with_reducible rfl
                try simp only [Act.put, List.getElem_toArray, List.getElem_cons_zero, List.getElem_cons_succ, List.setIfInBounds_toArray, List.set_cons_zero, List.set_cons_succ]
                refine wpAnyH_take (i := 12) (v := ?vu12) rfl (by kernel_rfl) (by kernel_rfl) (by kernel_rfl) (fun _ _ _ h => h) (Or.inl ⟨by rfl, ?yu12⟩) (by assumption) ?ru12
                case yu12 =>
                  intro w hSw
                  (try dsimp only at hSw)
                  go_simp
                  first | done | with_reducible rfl
                try simp only [Act.put, List.getElem_toArray, List.getElem_cons_zero, List.getElem_cons_succ, List.setIfInBounds_toArray, List.set_cons_zero, List.set_cons_succ]
                refine wpAnyH_take (i := 13) (v := ?vu13) rfl (by kernel_rfl) (by kernel_rfl) (by kernel_rfl) (fun _ _ _ h => h) (Or.inl ⟨by rfl, ?yu13⟩) (by assumption) ?ru13
                case yu13 =>
                  intro w hSw
                  (try dsimp only at hSw)
                  go_simp
                  first | done | with_reducible rfl
                try simp only [Act.put, List.getElem_toArray, List.getElem_cons_zero, List.getElem_cons_succ, List.setIfInBounds_toArray, List.set_cons_zero, List.set_cons_succ]
                refine wpAnyH_take (i := 14) (v := ?vu14) rfl (by kernel_rfl) (by kernel_rfl) (by kernel_rfl) (fun _ _ _ h => h) (Or.inl ⟨by rfl, ?yu14⟩) (by assumption) ?ru14
                case yu14 =>
                  intro w hSw
                  (try dsimp only at hSw)
                  go_simp
                  first | done | with_reducible rfl
                try simp only [Act.put, List.getElem_toArray, List.getElem_cons_zero, List.getElem_cons_succ, List.setIfInBounds_toArray, List.set_cons_zero, List.set_cons_succ]
                refine wpAnyH_take (i := 15) (v := ?vu15) rfl (by kernel_rfl) (by kernel_rfl) (by kernel_rfl) (fun _ _ _ h => h) (Or.inl ⟨by rfl, ?yu15⟩) (by assumption) ?ru15
                case yu15 =>
                  intro w hSw
                  (try dsimp only at hSw)
                  go_simp
                  first | done | with_reducible rfl
                try simp only [Act.put, List.getElem_toArray, List.getElem_cons_zero, List.getElem_cons_succ, List.setIfInBounds_toArray, List.set_cons_zero, List.set_cons_succ]
                refine wpAnyH_take (i := 16) (v := ?vu16) rfl (by kernel_rfl) (by kernel_rfl) (by kernel_rfl) (fun _ _ _ h => h) (Or.inl ⟨by rfl, ?yu16⟩) (by assumption) ?ru16
                case yu16 =>
                  intro w hSw
                  (try dsimp only at hSw)
                  go_simp
                  first | done | with_reducible rfl
                try simp only [Act.put, List.getElem_toArray, List.getElem_cons_zero, List.getElem_cons_succ, List.setIfInBounds_toArray, List.set_cons_zero, List.set_cons_succ]
                refine wpAnyH_take (i := 17) (v := ?vu17) rfl (by kernel_rfl) (by kernel_rfl) (by kernel_rfl) (fun _ _ _ h => h) (Or.inl ⟨by rfl, ?yu17⟩) (by assumption) ?ru17
                case yu17 =>
                  intro w hSw
                  (try dsimp only at hSw)
                  go_simp
                  first | done | with_reducible rfl
                try simp only [Act.put, List.getElem_toArray, List.getElem_cons_zero, List.getElem_cons_succ, List.setIfInBounds_toArray, List.set_cons_zero, List.set_cons_succ]
                refine wpAnyH_take (i := 18) (v := ?vu18) rfl (by kernel_rfl) (by kernel_rfl) (by kernel_rfl) (fun _ _ _ h => h) (Or.inl ⟨by rfl, ?yu18⟩) (by assumption) ?ru18
                case yu18 =>
                  intro w hSw
                  (try dsimp only at hSw)
                  go_simp
                  first | done | with_reducible rfl
                try simp only [Act.put, List.getElem_toArray, List.getElem_cons_zero, List.getElem_cons_succ, List.setIfInBounds_toArray, List.set_cons_zero, List.set_cons_succ]
                refine wpAnyH_take (i := 19) (v := ?vu19) rfl (by kernel_rfl) (by kernel_rfl) (by kernel_rfl) (fun _ _ _ h => h) (Or.inl ⟨by rfl, ?yu19⟩) (by assumption) ?ru19
                case yu19 =>
                  intro w hSw
                  (try dsimp only at hSw)
                  go_simp
                  first | done | with_reducible rfl
                try simp only [Act.put, List.getElem_toArray, List.getElem_cons_zero, List.getElem_cons_succ, List.setIfInBounds_toArray, List.set_cons_zero, List.set_cons_succ]
                refine wpAnyH_take (i := 20) (v := ?vu20) rfl (by kernel_rfl) (by kernel_rfl) (by kernel_rfl) (fun _ _ _ h => h) (Or.inl ⟨by rfl, ?yu20⟩) (by assumption) ?ru20
                case yu20 =>
                  intro w hSw
                  (try dsimp only at hSw)
                  go_simp
                  first | done | with_reducible rfl
                try simp only [Act.put, List.getElem_toArray, List.getElem_cons_zero, List.getElem_cons_succ, List.setIfInBounds_toArray, List.set_cons_zero, List.set_cons_succ]
                refine wpAnyH_take (i := 21) (v := ?vu21) rfl (by kernel_rfl) (by kernel_rfl) (by kernel_rfl) (fun _ _ _ h => h) (Or.inl ⟨by rfl, ?yu21⟩) (by assumption) ?ru21
                case yu21 =>
                  intro w hSw
                  (try dsimp only at hSw)
                  go_simp
                  first | done | with_reducible rfl
                try simp only [Act.put, List.getElem_toArray, List.getElem_cons_zero, List.getElem_cons_succ, List.setIfInBounds_toArray, List.set_cons_zero, List.set_cons_succ]
                refine wpAnyH_ready (rs := [22]) (by kernel_rfl) (by simp) ?_
                refine AllReadyH.cons rfl (fun K hK => ?_) AllReadyH.nil
                go_simp
                refine HU.out.mono ?_
                rintro e w5 ⟨rfl, hw5⟩
                subst hw5
                go_wp2_with fail
                refine hK.out _ _ ⟨c1, d1⟩ (fun hHeld => ?_)
                clear hK K
                try simp only [Act.put, List.getElem_toArray, List.getElem_cons_zero, List.getElem_cons_succ, List.setIfInBounds_toArray, List.set_cons_zero, List.set_cons_succ]
                refine wpAnyH_take (i := 23) (v := ?vu23) rfl (by kernel_rfl) (by kernel_rfl) (by kernel_rfl) (fun _ _ _ h => h) (Or.inl ⟨by rfl, ?yu23⟩) (by assumption) ?ru23
                case yu23 =>
                  intro w hSw
                  (try dsimp only at hSw)
                  go_simp
                  first | done | with_reducible rfl
                try simp only [Act.put, List.getElem_toArray, List.getElem_cons_zero, List.getElem_cons_succ, List.setIfInBounds_toArray, List.set_cons_zero, List.set_cons_succ]
                refine wpAnyH_done (by kernel_rfl) ?_ _
                cases hun : underL x.p.data.toList y.p.data.toList with
                | true =>
                  have hf := right_falls h2 HFX.out HFY.out (by unfold aheadB; show (_ && !underL x.p.data.toList y.p.data.toList) = false; rw [hun, Bool.not_true, Bool.and_false])
                  have HF := Lib.hid hf; clear hf
                  go_wp2_with fail
                  go_ret
                  exact ⟨by rw [HF.out]; rfl, HB1.out.trans ((hbi.drew).mono HB1.out.size)⟩
                | false =>
                  have hn : aheadB y.fl x.fl = true := by unfold aheadB; show (ltB y.p.data.toList x.p.data.toList && !underL x.p.data.toList y.p.data.toList) = true; rw [HLT.out, hun]; rfl
                  have HN := Lib.hid hn; clear hn
                  go_wp2_with fail
                  go_roundw
                  case rel => exact ⟨m + 1, by omega, by go_num, fun q z hq hz => by
                    rcases Nat.lt_or_eq_of_le (Nat.lt_succ_iff.1 hq) with h | rfl
                    · exact HAH.out q z h hz
                    · have := HFY.out; rw [hz] at this; cases this; exact HN.out, hbi.drew⟩
                  case measure => simp [intOf]; omega
            · obtain rfl : m = k := by omega
              have HAH := Lib.hid hah; clear hah
              go_wp2_with fail
              go_roundw
              case rel => exact ⟨m + 1, by omega, by go_num, fun i z hi hz => by
                rcases Nat.lt_or_eq_of_le (Nat.lt_succ_iff.1 hi) with h | rfl
                · exact HSEEN.out i z h hz
                · have := HFX.out; rw [hz] at this; cases this; exact ⟨HOK.out, HAH.out⟩, HB1.out.trans (hbi.mono HB1.out.size)⟩
              case measure => simp [intOf]; omega
    · obtain rfl : k = l.length := by omega
      have hf : rightT (flsX l) = decide ((l.length : Int) ≤ 1000) := by
        by_cases hz : l.length ≤ 1000
        · rw [decide_eq_true (by omega), right_iff]
          refine ⟨by rw [flsX_length]; exact hz, fun i x hi => hseen i x ?_ hi⟩
          have := (List.getElem?_eq_some_iff.1 hi).1
          rwa [flsX_length] at this
        · rw [decide_eq_false (by omega)]
          exact right_long (by unfold longT; rw [Bool.or_eq_true]; exact .inl (decide_eq_true (by rw [flsX_length]; omega)))
      have HF := Lib.hid hf; clear hf hseen
      go_wp2_with fail
      go_ret
      exact ⟨by rw [HF.out]; rfl, hbr⟩
end Go.Proofs.YtedcaodbcognjaaDoor
