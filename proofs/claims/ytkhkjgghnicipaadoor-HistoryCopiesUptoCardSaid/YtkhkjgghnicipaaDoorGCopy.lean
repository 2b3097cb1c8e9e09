/-
  The program's Copy of layer 3 (history).
-/
import Derived.Test.YtkhkjgghnicipaaDoorGTwin
import Derived.Test.YtkhkjgghnicipaaDoorMapsC
import Derived.Deep.RegionHeld3
import Derived.BigQuiet
namespace Go.Proofs.YtkhkjgghnicipaaDoor
open Go Go.RowKit Go.Shelf Go.Proofs Go.ChangeMaps Go.Maps Go.WideMaps

theorem rowsV_one (H : List (Nat × List DX)) : ∀ u ∈ rowsV H, u.oneCell' = true := by
  intro u hu
  obtain ⟨x, _, rfl⟩ := List.mem_map.1 hu
  rfl
set_option maxRecDepth 100000 in
set_option maxHeartbeats 1000000 in
theorem hclone_rows {base n c : Nat} {A : Option Addr} {H : List (Nat × List DX)} {w : World} (h : w.ownsRow base 61 1 (.slice A n c) n (rowsV H)) (hn : n ≤ 100000) :
    Calls Tryd.prog 25 #[.slice A n c] w fun e w' => ∃ v', e = .returned v' ∧ w'.ownsRow w.heap.size 61 1 v' n (rowsV H) ∧ Below w.heap.size w w' := by
  obtain ⟨i0, hi, hz0, hz1, hz2⟩ := info_parts recs_info
  have q := fun (w : World) (a : Option Addr) (n c n' c' : Nat) => Lib.run_eql_slice_nil (P := Tryd.prog) w 57 61 a n c n' c' Tryd.underlying57
  rcases h.2 with ⟨hv, h0⟩ | ⟨g, cap, cur, hv, _⟩
  · cases hv
    have hr : rowsV H = [] := List.eq_nil_of_length_eq_zero (by have := h.1; omega)
    rw [hr]
    clear h hr
    go_enter Tryd.func25, Tryd.ntmps25
    go_wp2_with fail
    go_ret
    exact ⟨_, rfl, World.ownsRow_nil _ _ _ _, Below.refl _ _⟩
  · cases hv
    have HC := Lib.hid (World.ownsRow.cells h (g := g) rfl)
    have HI := Lib.hid hi
    have HL := Lib.hid h.1
    clear h hi
    go_enter Tryd.func25, Tryd.ntmps25
    go_wp2_with (at_builtin; refine wpList_append_own _ rfl _ _ 57 rfl w.heap.size 61 i0 (.slice none 0 0) 1 24 Tryd.underlying57 HI.out hz0 hz1 hz2 rfl (by decide) _ _ _ rfl (World.ownsRow_made w #[] 0 (Nat.le_refl _) (Nat.zero_le _) rfl) ⟨g, 0, none⟩ n c (rowsV H) rfl HL.out ?qc2 (rowsV_one H) ?qc4 ?qc5 ?qc6 ?_)
    case qc2 => intro j u hj; exact Lib.cell?_alloc_some _ (HC.out j u hj)
    case qc4 => unfold maxLen; omega
    case qc5 => omega
    case qc6 => simp
    intro v' w1 hown hgrow _
    go_wp2_with fail
    go_ret
    exact ⟨v', rfl, by simpa using hown, ((Below.refl _ w).alloc (Nat.le_refl _) _).grown hgrow (by simp) (by intro k hk; simp [Value.ownBlock] at hk; omega)⟩
theorem hclone_map {mb k : Nat} {D : DataW Unit} {w : World} (h : MapAt w mb k D) :
    Calls Tryd.prog 26 #[.map (some mb)] w fun e w' => e = .returned (.map (some w.heap.size)) ∧ MapAt w' w.heap.size k D ∧ Below w.heap.size w w' :=
  (AnyW.maps_Clone_owns Tryd.mapsClone 9 ptrD mb k D w h).mono fun _ _ ⟨h1, h2, _, h4⟩ => ⟨h1, h2, h4⟩

set_option maxRecDepth 100000 in
set_option maxHeartbeats 16000000 in
theorem hcopy_any {base : Nat} {w : World} {hb n : Nat} {nm : List FX} {M : Bs → Nat} {nv cv : Value} {mb k : Nat} {D : DataW Unit} {H : List (Nat × List DX)} (h : HistAt base w hb n nm M nv cv mb k D H) (hn : n ≤ 100000) :
    Calls Tryd.prog 10 #[.pointer (some ⟨hb, 0, none⟩)] w fun e w' => ∃ cb cv' mb', e = .returned (.pointer (some ⟨cb, 0, none⟩)) ∧ HistAt w.heap.size w' cb n nm M nv cv' mb' k D H ∧ Below w.heap.size w w' := by
  obtain ⟨Ac, cc, rfl, _⟩ := h.commit_slice
  obtain ⟨An, cn, rfl, _⟩ := h.tree
  have c0 := cell_of_row w hb 0 _ _ _ h.heap
  have c1 := cell_of_row w hb 1 _ _ _ h.heap
  have c2 := cell_of_row w hb 2 _ _ _ h.heap
  have hlt := (Array.getElem?_eq_some_iff.1 h.heap).1
  have HS := Lib.hid (fun (W : World) (hB : Below w.heap.size w W) => (⟨(hB.cell (p := ⟨hb, 0, none⟩) hlt).trans c0, (hB.cell (p := ⟨hb, 1, none⟩) hlt).trans c1, (hB.cell (p := ⟨hb, 2, none⟩) hlt).trans c2⟩ : W.cell? ⟨hb, 0, none⟩ = some (.slice An nm.length cn) ∧ W.cell? ⟨hb, 1, none⟩ = some (.slice Ac n cc) ∧ W.cell? ⟨hb, 2, none⟩ = some (.map (some mb))))
  have HH := Lib.hid h
  have HNL := Lib.hid hn
  clear h hlt hn
  go_enter Tryd.func10, Tryd.ntmps10
  go_wp2_with fail
  refine wp_region_held_drew (S := (fun w' => w'.cell? ⟨hb, 0, none⟩ = some (.slice An nm.length cn) ∧ w'.cell? ⟨hb, 1, none⟩ = some (.slice Ac n cc) ∧ w'.cell? ⟨hb, 2, none⟩ = some (.map (some mb)))) (by kernel_rfl) ⟨c0, c1, c2⟩ (fun hHeld => ?_)
  refine wpAnyH_take (i := 0) (v := ?vq0) rfl (by kernel_rfl) (by kernel_rfl) (by kernel_rfl) (fun _ _ _ h => h) (Or.inl ⟨by rfl, ?yq0⟩) (by assumption) ?rq0
  case yq0 =>
    intro w hSw
    (try dsimp only at hSw)
    go_simp
    first | done | with_reducible rfl
  try simp only [Act.put, List.getElem_toArray, List.getElem_cons_zero, List.setIfInBounds_toArray, List.set_cons_zero, List.set_cons_succ]
  refine wpAnyH_take (i := 1) (v := ?vq1) rfl (by kernel_rfl) (by kernel_rfl) (by kernel_rfl) (fun _ _ _ h => h) (Or.inl ⟨by rfl, ?yq1⟩) (by assumption) ?rq1
  case yq1 =>
    intro w hSw
    (try dsimp only at hSw)
    go_simp
    first | done | with_reducible rfl
  try simp only [Act.put, List.getElem_toArray, List.getElem_cons_zero, List.getElem_cons_succ, List.setIfInBounds_toArray, List.set_cons_zero, List.set_cons_succ]
  refine wpAnyH_take (i := 2) (v := ?vq2) rfl (by kernel_rfl) (by kernel_rfl) (by kernel_rfl) (fun _ _ _ h => h) (Or.inl ⟨by rfl, ?yq2⟩) (by assumption) ?rq2
  case yq2 =>
    intro w hSw
    (try dsimp only at hSw)
    go_simp
    first | done | with_reducible rfl
  try simp only [Act.put, List.getElem_toArray, List.getElem_cons_zero, List.getElem_cons_succ, List.setIfInBounds_toArray, List.set_cons_zero, List.set_cons_succ]
  refine wpAnyH_take (i := 3) (v := ?vq3) rfl (by kernel_rfl) (by kernel_rfl) (by kernel_rfl) (fun _ _ _ h => h) (Or.inl ⟨by rfl, ?yq3⟩) (by assumption) ?rq3
  case yq3 =>
    intro w hSw
    (try dsimp only at hSw)
    go_simp
    first | done | with_reducible rfl
  try simp only [Act.put, List.getElem_toArray, List.getElem_cons_zero, List.getElem_cons_succ, List.setIfInBounds_toArray, List.set_cons_zero, List.set_cons_succ]
  refine wpAnyH_take (i := 4) (v := ?vq4) rfl (by kernel_rfl) (by kernel_rfl) (by kernel_rfl) (fun _ _ _ h => h) (Or.inl ⟨by rfl, ?yq4⟩) (by assumption) ?rq4
  case yq4 =>
    intro w hSw
    (try dsimp only at hSw)
    go_simp
    first | done | with_reducible rfl
  try simp only [Act.put, List.getElem_toArray, List.getElem_cons_zero, List.getElem_cons_succ, List.setIfInBounds_toArray, List.set_cons_zero, List.set_cons_succ]
  refine wpAnyH_take (i := 5) (v := ?vq5) rfl (by kernel_rfl) (by kernel_rfl) (by kernel_rfl) (fun _ _ _ h => h) (Or.inl ⟨by rfl, ?yq5⟩) (by assumption) ?rq5
  case yq5 =>
    intro w hSw
    (try dsimp only at hSw)
    go_simp
    first | done | with_reducible rfl
  try simp only [Act.put, List.getElem_toArray, List.getElem_cons_zero, List.getElem_cons_succ, List.setIfInBounds_toArray, List.set_cons_zero, List.set_cons_succ]
  refine wpAnyH_take (i := 6) (v := ?vq6) rfl (by kernel_rfl) (by kernel_rfl) (by kernel_rfl) (fun _ _ _ h => h) (Or.inl ⟨by rfl, ?yq6⟩) (by assumption) ?rq6
  case yq6 =>
    intro w hSw
    (try dsimp only at hSw)
    go_simp
    first | done | with_reducible rfl
  try simp only [Act.put, List.getElem_toArray, List.getElem_cons_zero, List.getElem_cons_succ, List.setIfInBounds_toArray, List.set_cons_zero, List.set_cons_succ]
  refine wpAnyH_take (i := 7) (v := ?vq7) rfl (by kernel_rfl) (by kernel_rfl) (by kernel_rfl) (fun _ _ _ h => h) (Or.inl ⟨by rfl, ?yq7⟩) (by assumption) ?rq7
  case yq7 =>
    intro w hSw
    (try dsimp only at hSw)
    go_simp
    first | done | with_reducible rfl
  try simp only [Act.put, List.getElem_toArray, List.getElem_cons_zero, List.getElem_cons_succ, List.setIfInBounds_toArray, List.set_cons_zero, List.set_cons_succ]
  refine wpAnyH_take (i := 9) (v := ?vq9) rfl (by kernel_rfl) (by kernel_rfl) (by kernel_rfl) (fun _ _ _ h => h) (Or.inl ⟨by rfl, ?yq9⟩) (by assumption) ?rq9
  case yq9 =>
    intro w hSw
    (try dsimp only at hSw)
    go_simp
    first | done | with_reducible rfl
  try simp only [Act.put, List.getElem_toArray, List.getElem_cons_zero, List.getElem_cons_succ, List.setIfInBounds_toArray, List.set_cons_zero, List.set_cons_succ]
  refine wpAnyH_take (i := 10) (v := ?vq10) rfl (by kernel_rfl) (by kernel_rfl) (by kernel_rfl) (fun _ _ _ h => h) (Or.inl ⟨by rfl, ?yq10⟩) (by assumption) ?rq10
  case yq10 =>
    intro w hSw
    (try dsimp only at hSw)
    go_simp
    first | done | with_reducible rfl
  try simp only [Act.put, List.getElem_toArray, List.getElem_cons_zero, List.getElem_cons_succ, List.setIfInBounds_toArray, List.set_cons_zero, List.set_cons_succ]
  refine wpAnyH_take (i := 11) (v := ?vq11) rfl (by kernel_rfl) (by kernel_rfl) (by kernel_rfl) (fun _ _ _ h => h) (Or.inl ⟨by rfl, ?yq11⟩) (by assumption) ?rq11
  case yq11 =>
    intro w hSw
    (try dsimp only at hSw)
    go_simp
    first | done | with_reducible rfl
  try simp only [Act.put, List.getElem_toArray, List.getElem_cons_zero, List.getElem_cons_succ, List.setIfInBounds_toArray, List.set_cons_zero, List.set_cons_succ]
  refine wpAnyH_take (i := 12) (v := ?vq12) rfl (by kernel_rfl) (by kernel_rfl) (by kernel_rfl) (fun _ _ _ h => h) (Or.inl ⟨by rfl, ?yq12⟩) (by assumption) ?rq12
  case yq12 =>
    intro w hSw
    (try dsimp only at hSw)
    go_simp
    first | done | with_reducible rfl
  try simp only [Act.put, List.getElem_toArray, List.getElem_cons_zero, List.getElem_cons_succ, List.setIfInBounds_toArray, List.set_cons_zero, List.set_cons_succ]
  refine wpAnyH_ready (rs := [8]) (by kernel_rfl) (by simp) ?_
  refine AllReadyH.cons rfl (fun K hK => ?_) AllReadyH.nil
  go_simp
  refine (hclone_rows (h := HH.out.commits.kept (grownN (below_drew0 w) none) (by cases (Value.slice Ac n cc).ownBlock <;> simp)) HNL.out).mono ?_
  rintro e w4 ⟨v4, rfl, ho4, hb4⟩
  obtain ⟨A4, c4, rfl⟩ := own_slice ho4
  have hb4 : Below w.heap.size w w4 := (below_drew0 w).trans hb4
  have HB4 := Lib.hid hb4
  have HO4 := Lib.hid ho4
  have hs4 := HS.out w4 hb4
  clear hb4 ho4
  go_wp2_with fail
  refine hK.out _ _ hs4 (fun hHeld => ?_)
  clear hs4
  clear hK K
  try simp only [Act.put, List.getElem_toArray, List.getElem_cons_zero, List.getElem_cons_succ, List.setIfInBounds_toArray, List.set_cons_zero, List.set_cons_succ]
  refine wpAnyH_ready (rs := [13]) (by kernel_rfl) (by simp) ?_
  refine AllReadyH.cons rfl (fun K hK => ?_) AllReadyH.nil
  go_simp
  refine (hclone_map (HH.out.map.below HB4.out)).mono ?_
  rintro e w5 ⟨rfl, hm5, hb5⟩
  have HB5 := Lib.hid (HB4.out.trans (hb5.mono HB4.out.size))
  have HM5 := Lib.hid hm5
  have HO5 := Lib.hid (HO4.out.kept (grownN hb5 none) (by cases (Value.slice A4 n c4).ownBlock <;> simp))
  have hs5 := HS.out w5 HB5.out
  clear hb5 hm5
  go_wp2_with fail
  refine hK.out _ _ hs5 (fun hHeld => ?_)
  clear hs5
  clear hK K
  try simp only [Act.put, List.getElem_toArray, List.getElem_cons_zero, List.getElem_cons_succ, List.setIfInBounds_toArray, List.set_cons_zero, List.set_cons_succ]
  refine wpAnyH_take (i := 14) (v := ?vq14) rfl (by kernel_rfl) (by kernel_rfl) (by kernel_rfl) (fun _ _ _ h => h) (Or.inl ⟨by rfl, ?yq14⟩) (by assumption) ?rq14
  case yq14 =>
    intro w hSw
    (try dsimp only at hSw)
    go_simp
    first | done | with_reducible rfl
  try simp only [Act.put, List.getElem_toArray, List.getElem_cons_zero, List.getElem_cons_succ, List.setIfInBounds_toArray, List.set_cons_zero, List.set_cons_succ]
  refine wpAnyH_ready (rs := [15]) (by kernel_rfl) (by simp) ?_
  refine AllReadyH.cons rfl (fun K hK => ?_) AllReadyH.nil
  go_simp
  have hs6 := HS.out (w5.alloc (.cells #[.slice An nm.length cn, .slice A4 n c4, .map (some w4.heap.size)] 60)) (HB5.out.trans ((below_box w5 _).mono HB5.out.size))
  refine hK.out _ _ hs6 (fun hHeld => ?_)
  clear hs6
  clear hK K
  try simp only [Act.put, List.getElem_toArray, List.getElem_cons_zero, List.getElem_cons_succ, List.setIfInBounds_toArray, List.set_cons_zero, List.set_cons_succ]
  refine wpAnyH_take (i := 16) (v := ?vq16) rfl (by kernel_rfl) (by kernel_rfl) (by kernel_rfl) (fun _ _ _ h => h) (Or.inl ⟨by rfl, ?yq16⟩) (by assumption) ?rq16
  case yq16 =>
    intro w hSw
    (try dsimp only at hSw)
    go_simp
    first | done | with_reducible rfl
  try simp only [Act.put, List.getElem_toArray, List.getElem_cons_zero, List.getElem_cons_succ, List.setIfInBounds_toArray, List.set_cons_zero, List.set_cons_succ]
  refine wpAnyH_done (by kernel_rfl) ?_ _
  go_wp2_with fail
  go_ret
  have hg6 := heap_alloc_new w5 (.cells #[.slice An nm.length cn, .slice A4 n c4, .map (some w4.heap.size)] 60)
  have hb6 := HB5.out.trans ((below_box w5 (.cells #[.slice An nm.length cn, .slice A4 n c4, .map (some w4.heap.size)] 60)).mono HB5.out.size)
  have hb56 := below_box w5 (.cells #[.slice An nm.length cn, .slice A4 n c4, .map (some w4.heap.size)] 60)
  refine ⟨w5.heap.size, _, w4.heap.size, rfl, ⟨hg6, (HH.out.names.below hb6), HH.out.right, HH.out.bare, ?_, HH.out.num, HH.out.full.below hb6, HH.out.sm, HM5.out.below hb56, HH.out.room, HH.out.revs.below hb6, HH.out.le, HB5.out.size, HB4.out.size⟩, hb6⟩
  have ho6 := HO5.out.kept (grownN hb56 none) (by cases (Value.slice A4 n c4).ownBlock <;> simp)
  exact ho6
end Go.Proofs.YtkhkjgghnicipaaDoor
