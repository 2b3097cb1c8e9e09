/-
  The law GraphChains. (gen_gplawc.py)
-/
import Derived.Test.YteigepblocbnlaaGpLawD
namespace Go.Proofs.Yteigepblocbnlaa.Gp
open Go Go.RowKit Go.Shelf Go.Proofs
attribute [local go_sem] Oper.semAt_some

def chainP (j : Nat) : List EN := (List.range j).map (fun i => (i, i + 1))
theorem chainP_succ (j : Nat) : castE (chainP (j + 1)) = castE (chainP j) ++ [((j : Int), (j : Int) + 1)] := by
  unfold chainP; rw [List.range_succ, List.map_append, castE_append]; rfl
theorem chainP_length (j : Nat) : (chainP j).length = j := by unfold chainP; simp
theorem chainP_mem {j x y : Nat} : (x, y) ∈ chainP j ↔ x < j ∧ y = x + 1 := by
  unfold chainP
  simp only [List.mem_map, List.mem_range, Prod.mk.injEq]
  constructor
  · rintro ⟨i, hi, rfl, rfl⟩; exact ⟨hi, rfl⟩
  · rintro ⟨h, rfl⟩; exact ⟨x, h, rfl, rfl⟩
theorem chain_ok (K : Nat) (_h : 0 < K) : ∀ e ∈ chainP (K - 1), e.1 < K ∧ e.2 < K := by
  rintro ⟨x, y⟩ h
  obtain ⟨h1, rfl⟩ := chainP_mem.1 h
  simp only; omega
theorem ring_ok (K : Nat) (h0 : 0 < K) : ∀ e ∈ chainP (K - 1) ++ [(K - 1, 0)], e.1 < K ∧ e.2 < K := by
  intro e h
  rcases List.mem_append.1 h with h | h
  · exact chain_ok K h0 e h
  · rw [List.mem_singleton.1 h]; simp only; omega
theorem chain_le {K : Nat} (h0 : 0 < K) {x y : Nat} (w : Rch (adjT K (chainP (K - 1))) K x y) : x ≤ y :=
  Rch.ind (P := fun x y => x ≤ y) (fun _ _ => Nat.le_refl _) (fun x y z _ _ e _ ih => by
    have := chainP_mem.1 ((adj_iff (chain_ok K h0) x y).1 e)
    omega) w
theorem chain_eq {K : Nat} (h0 : 0 < K) {x y : Nat} (w : Mut (adjT K (chainP (K - 1))) K x y) : x = y := Nat.le_antisymm (chain_le h0 w.1) (chain_le h0 w.2)
theorem chain_R {K : Nat} (h0 : 0 < K) : RT K (chainP (K - 1)) = (List.range K).map (fun x => x) := by
  obtain ⟨R, hR, e⟩ := RT_least (chain_ok K h0)
  rw [e]
  exact List.map_congr_left fun x hx => (chain_eq h0 (hR x (List.mem_range.1 hx)).1).symm
theorem chain_D {K : Nat} (h0 : 0 < K) : DT K (chainP (K - 1)) = (List.range K).map (fun x => K - 1 - x) := by
  obtain ⟨D, hD, e, _⟩ := DT_deep (chain_ok K h0)
  rw [e]
  refine List.map_congr_left fun x hx => Deep.uniq hD ?_ (List.mem_range.1 hx)
  refine ⟨fun x y m => by rw [chain_eq h0 m], fun x y hx hy he _ => ?_, fun x hx => ?_⟩
  · have := chainP_mem.1 ((adj_iff (chain_ok K h0) x y).1 he)
    omega
  · by_cases h1 : x + 1 < K
    · refine .inr ⟨x, x + 1, .refl hx, h1, (adj_iff (chain_ok K h0) x (x + 1)).2 (chainP_mem.2 ⟨by omega, rfl⟩), fun m => ?_, by omega⟩
      have := chain_eq h0 m; omega
    · left; omega
theorem ring_up {K : Nat} (h0 : 0 < K) : ∀ d x : Nat, x + d < K → Rch (adjT K (chainP (K - 1) ++ [(K - 1, 0)])) K x (x + d) := by
  intro d
  induction d with
  | zero => intro x hx; exact .refl hx
  | succ d ih =>
    intro x hx
    have h1 := ih (x + 1) (by omega)
    rw [show x + (d + 1) = x + 1 + d by omega]
    exact .step (by omega) ((adj_iff (ring_ok K h0) x (x + 1)).2 (List.mem_append_left _ (chainP_mem.2 ⟨by omega, rfl⟩))) h1
theorem ring_all {K : Nat} (h0 : 0 < K) {x y : Nat} (hx : x < K) (hy : y < K) : Rch (adjT K (chainP (K - 1) ++ [(K - 1, 0)])) K x y := by
  have a := ring_up h0 (K - 1 - x) x (by omega)
  rw [show x + (K - 1 - x) = K - 1 by omega] at a
  have b := ring_up h0 y 0 (by omega)
  rw [Nat.zero_add] at b
  exact Wy.trans a (.step (by rw [been_new]; simp; omega) ((adj_iff (ring_ok K h0) (K - 1) 0).2 (by simp)) b)
theorem ring_R {K : Nat} (h0 : 0 < K) : RT K (chainP (K - 1) ++ [(K - 1, 0)]) = (List.range K).map (fun _ => 0) := by
  obtain ⟨R, hR, e⟩ := RT_least (ring_ok K h0)
  rw [e]
  refine List.map_congr_left fun x hx => ?_
  have hx := List.mem_range.1 hx
  have := (hR x hx).2 0 ⟨ring_all h0 hx h0, ring_all h0 h0 hx⟩
  omega
theorem ring_D {K : Nat} (h0 : 0 < K) : DT K (chainP (K - 1) ++ [(K - 1, 0)]) = (List.range K).map (fun _ => 0) := by
  obtain ⟨D, hD, e, _⟩ := DT_deep (ring_ok K h0)
  rw [e]
  refine List.map_congr_left fun x hx => Deep.uniq (e := fun _ => 0) hD ?_ (List.mem_range.1 hx)
  exact ⟨fun _ _ _ => rfl, fun x y hx hy _ hne => absurd ⟨ring_all h0 hx hy, ring_all h0 hy hx⟩ hne, fun _ _ => .inl rfl⟩

set_option maxRecDepth 100000 in
set_option maxHeartbeats 16000000 in
theorem graphchains_any (n : Nat) (hn : n < 256) (w : World) :
    Calls Try.prog 7 #[.int .u8 n] w fun e w' => e = .returned (.bool true) ∧ Below w.heap.size w w' := by
  obtain ⟨K, hK⟩ : ∃ K, 1 + n % 60 = K := ⟨_, rfl⟩
  have e1 : 1 + (n : Int) % 60 = (K : Int) := by rw [← hK]; omega
  have h0 : 0 < K := by omega
  have h60 : K ≤ 60 := by omega
  clear hK
  have wK : IntKind.i64.wrap ((K : Int) - 1) = (K : Int) - 1 := IntWalk.i64_in _ (by omega)
  go_enter Try.func7, Try.ntmps7
  go_wp2_with fail
  clear e1
  go_loopw [4, 5] (fun s y wr => ∃ (j q : Nat) (A' : Option Addr) (c' : Nat), j ≤ K - 1 ∧ s = .slice A' q c' ∧ y = .int .i64 j ∧ Hid (q = j) ∧ Hid (OE w.heap.size wr (.slice A' q c') (castE (chainP j))) ∧ Hid (Below w.heap.size w wr)) (fun _ y _ => K - (intOf y).toNat)
  case atStart => exact ⟨0, 0, none, 0, Nat.zero_le _, rfl, rfl, rfl, OE.nil _ _, Below.refl _ _⟩
  case round =>
    obtain ⟨j, q, A', c', hj, rfl, rfl, HQ, HO, HB⟩ := hrel
    by_cases h1 : j + 1 < K
    · have q1 : (j : Int) + 1 < (K : Int) := by omega
      have wj : IntKind.i64.wrap ((j : Int) + 1) = (j : Int) + 1 := IntWalk.i64_in _ (by omega)
      go_wp2_with (at_builtin; refine wpList_appE (e := ((j : Int), (j : Int) + 1)) (l := castE (chainP j)) (base := w.heap.size) rfl _ _ rfl rfl (HO.out.below ((Below.refl _ wr).alloc (Nat.le_refl _) _)) rfl (World.alloc_heap_new _ _) (by rw [castE_length, chainP_length]; omega) (by rw [World.size_alloc]; have := HB.out.size; omega) ?_; intro A8 c8 w8 hown8 hgr8; have HOW := Lib.hid hown8; have HLOW := Lib.hid (OE.low (HO.out.below ((Below.refl _ wr).alloc (Nat.le_refl _) (.cells #[.int .i64 (j : Int), .int .i64 ((j : Int) + 1)] 35))) (HB.out.alloc HB.out.size _) hgr8 (Nat.le_refl _) (by rw [World.size_alloc]; have := HB.out.size; omega)); clear hown8 hgr8)
      go_roundw
      case rel =>
        refine ⟨j + 1, j + 1, A8, c8, by omega, by simp [castE_length, chainP_length], by go_num, rfl, ?_, HLOW.out⟩
        have h8 := HOW.out
        rw [← chainP_succ, castE_length, chainP_length] at h8
        exact h8
      case measure => simp only [intOf]; omega
    · obtain rfl : j = K - 1 := by omega
      have q0 : ¬ ((K - 1 : Nat) : Int) + 1 < (K : Int) := by omega
      have wj : IntKind.i64.wrap (((K - 1 : Nat) : Int) + 1) = ((K - 1 : Nat) : Int) + 1 := IntWalk.i64_in _ (by omega)
      obtain ⟨A2, c2, he0, hE2, hA2⟩ := HO.out.form
      simp only [Value.slice.injEq] at he0
      obtain ⟨rfl, -, rfl⟩ := he0
      have hqq : (chainP (K - 1)).length = q := by rw [chainP_length, HQ.out]
      have hde := depths_any K A' c' (chainP (K - 1)) wr hE2 (by rw [chainP_length]; omega) (by omega) (chain_ok K h0) (rightB_cast (by omega) (chain_ok K h0))
      have hri := fun (w' : World) (h : EdgesAt w' A' (castE (chainP (K - 1)))) => rings_any K A' c' (chainP (K - 1)) w' h (by rw [chainP_length]; omega) (by omega) (chain_ok K h0) (rightB_cast (by omega) (chain_ok K h0))
      rw [hqq] at hde hri
      have HDE := Lib.hid hde
      have HRI := Lib.hid hri
      have HE2 := Lib.hid hE2
      have HA2 := Lib.hid hA2
      have HQQ := Lib.hid hqq
      clear hde hri hE2 hA2 hqq
      go_wp2_with fail
      refine HDE.out.mono ?_
      rintro e w2 ⟨gd, rfl, hgd, hb2⟩
      rw [chain_D h0] at hgd
      have HB2 := Lib.hid hb2
      have HGD := Lib.hid hgd
      clear hb2 hgd q0 wj
      go_wp2_with fail
      refine (HRI.out _ (HE2.out.below HB2.out)).mono ?_
      rintro e w3 ⟨gr, rfl, hgr, hb3⟩
      rw [chain_R h0] at hgr
      have HB3 := Lib.hid (HB2.out.trans (hb3.mono HB2.out.size))
      have HGR := Lib.hid hgr
      have HGD3 := Lib.hid ((hb3.block _ (Array.getElem?_eq_some_iff.1 HGD.out).1).trans HGD.out)
      clear hb3 hgr
      have eK : ((K : Int) - 1) = ((K - 1 : Nat) : Int) := by omega
      go_wp2_with (at_builtin; refine wpList_appE (v := .slice A' q c') (e := (((K - 1 : Nat) : Int), (0 : Int))) (l := castE (chainP (K - 1))) (base := w.heap.size) rfl _ _ rfl rfl ((HO.out.below HB3.out).below ((Below.refl _ w3).alloc (Nat.le_refl _) _)) rfl (World.alloc_heap_new _ _) (by rw [castE_length, chainP_length]; omega) (by rw [World.size_alloc]; have := HB.out.size; have := HB3.out.size; omega) ?_; intro A8 c8 w8 hown8 hgr8; have HOW := Lib.hid hown8; have HGRW := Lib.hid hgr8; clear hown8 hgr8; rw [show (castE (chainP (K - 1)) ++ [(((K - 1 : Nat) : Int), (0 : Int))]).length = K by rw [List.length_append, castE_length, chainP_length]; simp; omega])
      have hlow8 : Below w.heap.size w w8 := OE.low ((HO.out.below HB3.out).below ((Below.refl _ w3).alloc (Nat.le_refl _) _)) ((HB.out.trans (HB3.out.mono HB.out.size)).alloc (by have := HB.out.size; have := HB3.out.size; omega) _) HGRW.out (Nat.le_refl _) (by rw [World.size_alloc]; have := HB.out.size; have := HB3.out.size; omega)
      have hcast : castE (chainP (K - 1)) ++ [(((K - 1 : Nat) : Int), (0 : Int))] = castE (chainP (K - 1) ++ [(K - 1, 0)]) := by rw [castE_append]; rfl
      have hOW := HOW.out
      rw [hcast] at hOW
      have hl2 : (chainP (K - 1) ++ [(K - 1, 0)]).length = K := by rw [List.length_append, chainP_length]; simp; omega
      rw [castE_length, hl2] at hOW
      obtain ⟨A3, c3, he3, hE3, _⟩ := hOW.form
      simp only [Value.slice.injEq] at he3
      obtain ⟨rfl, -, rfl⟩ := he3
      -- blocks of the answers lie below
      have hkeep : ∀ j o, j < w3.heap.size → w3.heap[j]? = some o → (∀ cur fr, o ≠ Obj.cells cur 35 fr) → w8.heap[j]? = some o := fun j o hjl ho hne => by
        refine (HGRW.out.block j (by rw [World.size_alloc]; omega) (fun e => ?_)).trans ((Below.heap_alloc _ _ _ hjl).trans ho)
        obtain ⟨_, hj2⟩ := World.ownsRow.lt (show _ from (HO.out.below HB3.out)) j e.symm
        rcases (HO.out.below HB3.out).2 with ⟨h0', _⟩ | ⟨g', cap, cur, h0', _, hg', _⟩
        · cases h0'; cases e
        · cases h0'
          have : j = g' := by simpa [Value.ownBlock] using e
          subst this
          rw [hg'] at ho; cases ho; exact hne _ _ rfl
      have hgd8 := hkeep _ _ (Array.getElem?_eq_some_iff.1 HGD3.out).1 HGD3.out (fun cur fr e => by cases e)
      have hgr8 := hkeep _ _ (Array.getElem?_eq_some_iff.1 HGR.out).1 HGR.out (fun cur fr e => by cases e)
      have hde := depths_any K A8 c8 (chainP (K - 1) ++ [(K - 1, 0)]) w8 hE3 (by rw [hl2]; omega) (by omega) (ring_ok K h0) (rightB_cast (by omega) (ring_ok K h0))
      have hri := fun (w' : World) (h : EdgesAt w' A8 (castE (chainP (K - 1) ++ [(K - 1, 0)]))) => rings_any K A8 c8 (chainP (K - 1) ++ [(K - 1, 0)]) w' h (by rw [hl2]; omega) (by omega) (ring_ok K h0) (rightB_cast (by omega) (ring_ok K h0))
      rw [hl2] at hde hri
      have HDE := Lib.hid hde
      have HRI := Lib.hid hri
      have HE3 := Lib.hid hE3
      have HGD8 := Lib.hid hgd8
      have HGR8 := Lib.hid hgr8
      have HL8 := Lib.hid hlow8
      clear hde hri hE3 hgd8 hgr8 hlow8 hkeep hcast hOW hl2
      refine HDE.out.mono ?_
      rintro e w9 ⟨ge, rfl, hge, hb9⟩
      rw [ring_D h0] at hge
      have HB9 := Lib.hid hb9
      have HGE := Lib.hid hge
      clear hb9 hge
      go_wp2_with fail
      refine (HRI.out _ (HE3.out.below HB9.out)).mono ?_
      rintro e wA ⟨gs, rfl, hgs, hbA⟩
      rw [ring_R h0] at hgs
      have HGE2 := Lib.hid ((hbA.block _ (Array.getElem?_eq_some_iff.1 HGE.out).1).trans HGE.out)
      have HBA := Lib.hid (HB9.out.trans (hbA.mono HB9.out.size))
      have HGS := Lib.hid hgs
      have HGDA := Lib.hid ((HBA.out.block _ (Array.getElem?_eq_some_iff.1 HGD8.out).1).trans HGD8.out)
      have HGRA := Lib.hid ((HBA.out.block _ (Array.getElem?_eq_some_iff.1 HGR8.out).1).trans HGR8.out)
      have n1 : ((K : Int) != (K : Int)) = false := by simp
      clear hbA hgs
      go_wp2_with fail
      go_loopw [10] (fun i wr => ∃ (i' : Nat), i' ≤ K ∧ i = .int .i64 i' ∧ Hid (Below wA.heap.size wA wr)) (fun i _ => K - (intOf i).toNat)
      case atStart => exact ⟨0, Nat.zero_le _, rfl, Below.refl _ _⟩
      case round =>
        obtain ⟨i, hi, rfl, HB0⟩ := hrel
        by_cases h1 : i < K
        · have c1 := cellI ((HB0.out.block _ (Array.getElem?_eq_some_iff.1 HGDA.out).1).trans HGDA.out) h1
          have c2 := cellI ((HB0.out.block _ (Array.getElem?_eq_some_iff.1 HGRA.out).1).trans HGRA.out) h1
          have c3 := cellI ((HB0.out.block _ (Array.getElem?_eq_some_iff.1 HGE2.out).1).trans HGE2.out) h1
          have c4 := cellI ((HB0.out.block _ (Array.getElem?_eq_some_iff.1 HGS.out).1).trans HGS.out) h1
          have q1 : (i : Int) < (K : Int) := by omega
          have wi : IntKind.i64.wrap (i : Int) = (i : Int) := IntWalk.i64_in _ (by omega)
          have eKi : ((K - 1 : Nat) : Int) - (i : Int) = ((K - 1 - i : Nat) : Int) := by omega
          have wki : IntKind.i64.wrap (((K - 1 - i : Nat) : Nat) : Int) = ((K - 1 - i : Nat) : Int) := IntWalk.i64_in _ (by omega)
          have m1 : (((K - 1 - i : Nat) : Int) != ((K - 1 - i : Nat) : Int)) = false := by simp
          have m2 : ((i : Int) != (i : Int)) = false := by simp
          go_wp2_with fail
          go_roundw
          case rel => exact ⟨i + 1, by omega, by go_num, HB0.out⟩
          case measure => simp [intOf]; omega
        · obtain rfl : i = K := by omega
          go_wp2_with fail
          refine (known_any _).mono ?_
          rintro e w7 ⟨rfl, hb7⟩
          go_wp2_with fail
          go_ret
          exact ⟨rfl, HL8.out.trans ((HBA.out.trans ((HB0.out.trans (hb7.mono HB0.out.size)).mono HBA.out.size)).mono HL8.out.size)⟩
end Go.Proofs.Yteigepblocbnlaa.Gp
