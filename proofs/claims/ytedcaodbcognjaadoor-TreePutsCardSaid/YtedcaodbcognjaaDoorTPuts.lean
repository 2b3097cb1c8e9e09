/-
  tree.Drop, tree.Put.
-/
import Derived.Test.YtedcaodbcognjaaDoorTClone
import Derived.Lib.Hide
namespace Go.Proofs.YtedcaodbcognjaaDoor
open Go Go.RowKit Go.Shelf Go.Proofs

/-- A tree that a call has made: a row of its own, each file with bytes of its own. -/
structure TreeMade (base : Nat) (w : World) (v : Value) (l : List FX) : Prop where
  own : FilesOwn base w v l
  bod : ∀ x ∈ l, BytesOwn w x.A x.b
theorem FilesOwn.slice {base : Nat} {w : World} {v : Value} {l : List FX} (h : FilesOwn base w v l) : ∃ A c, v = .slice A l.length c := by
  rcases h.form with ⟨rfl, rfl⟩ | ⟨g, cap, cur, rfl, _⟩
  · exact ⟨_, _, rfl⟩
  · exact ⟨_, _, rfl⟩
theorem FilesOwn.tree {base : Nat} {w : World} {A : Option Addr} {n c : Nat} {l : List FX} (h : FilesOwn base w (.slice A n c) l) (hb : FilesAt w l) : n = l.length ∧ TreeAt w A c l := by
  rcases h.form with ⟨e1, e2⟩ | ⟨g, cap, cur, e1, _, _, hc, hcm, _⟩
  · cases e1
    subst e2
    exact ⟨rfl, TreeAt.nil _ _ _ (Nat.zero_le _)⟩
  · cases e1
    exact ⟨rfl, hc, hcm, fun _ => ⟨g, 0, rfl, h.rowF⟩, hb⟩
theorem TreeMade.tree {base : Nat} {w : World} {A : Option Addr} {n c : Nat} {l : List FX} (h : TreeMade base w (.slice A n c) l) : n = l.length ∧ TreeAt w A c l := h.own.tree fun x hx => (h.bod x hx).at_
theorem TreeMade.below {base : Nat} {w w' : World} {v : Value} {l : List FX} (h : TreeMade base w v l) (hb : Below w.heap.size w w') : TreeMade base w' v l := ⟨h.own.below hb, fun x hx => (h.bod x hx).below hb⟩

def TreePost (w : World) (f : List Fl) (e : Ending) (w' : World) : Prop := ∃ v' l', e = .returned v' ∧ TreeMade w.heap.size w' v' l' ∧ flsX l' = f ∧ Below w.heap.size w w'

theorem keepX_sub {l : List FX} {s : ByteArray} : ∀ x ∈ keepX l s, x ∈ l := fun _x hx => (List.mem_filter.1 hx).1
theorem TreeAt.bodies {w : World} {A : Option Addr} {c : Nat} {l : List FX} (h : TreeAt w A c l) (hs : SmallX l) : BodiesLow w.heap.size w l := fun x hx => ⟨h.files x hx, (h.files x hx).low, (hs.2 x hx).2⟩
theorem BodiesLow.below {B : Nat} {w w' : World} {l : List FX} (h : BodiesLow B w l) (hb : Below B w w') : BodiesLow B w' l := fun x hx => by
  obtain ⟨h1, h2, h3⟩ := h x hx
  refine ⟨fun hn => ?_, h2, h3⟩
  exact (h1.keep (w' := w') fun g o e _ => hb.block g (h2 hn g o none e)) hn

theorem run_own (base : Nat) (l : List FX) (v : Value) (w0 w : World) (h : FilesOwn base w v l) (hl : l.length ≤ 100000) (hbo : BodiesLow base w l) (hb : Below base w0 w) (hbase : base ≤ w.heap.size) :
    Calls Tryd.prog 31 #[v] w fun e w' => ∃ l', e = .returned v ∧ TreeMade base w' v l' ∧ flsX l' = flsX l ∧ Below base w0 w' := by
  refine (own_any base l v w h hl hbo).mono ?_
  rintro e w' ⟨l', rfl, h1, h2, h3, h4⟩
  exact ⟨l', rfl, ⟨h1, h3⟩, h2, hb.grown h4 hbase fun g e => (h.row e).1⟩

set_option maxHeartbeats 1000000 in
theorem tdrop_any (l : List FX) (A : Option Addr) (c : Nat) (s : ByteArray) (w : World) (h : TreeAt w A c l) (hs : SmallX l) :
    Calls Tryd.prog 21 #[.slice A l.length c, .string s] w (TreePost w (dropT (flsX l) s.data.toList)) := by
  have HC := Lib.hid (clone_any l A c w h hs.1)
  have HB := Lib.hid (h.bodies hs)
  have HS := Lib.hid hs; clear hs h
  go_enter Tryd.func21, Tryd.ntmps21
  go_wp2_with fail
  refine HC.out.mono ?_
  rintro e w1 ⟨v1, rfl, h1, hb1⟩
  obtain ⟨A1, c1, rfl⟩ := h1.slice
  have HD := Lib.hid (drop_any w.heap.size l _ s w1 h1 HS.out.1)
  have H1 := Lib.hid h1; clear h1
  have HB1 := Lib.hid hb1; clear hb1
  go_wp2_with fail
  refine HD.out.mono ?_
  rintro e w2 ⟨v2, rfl, h2, hg2, _⟩
  obtain ⟨A2, c2, rfl⟩ := h2.slice
  have hb2 : Below w.heap.size w w2 := HB1.out.grown hg2 HB1.out.size fun g e => (H1.out.row e).1
  have hbo : BodiesLow w.heap.size w2 (keepX l s) := fun x hx => (HB.out.below hb2) x (keepX_sub x hx)
  have HO := Lib.hid (run_own w.heap.size (keepX l s) _ w w2 h2 (Nat.le_trans (List.length_filter_le _ _) HS.out.1) hbo hb2 hb2.size)
  clear h2 hg2 hb2 hbo
  go_wp2_with fail
  refine HO.out.mono ?_
  rintro e w3 ⟨l', rfl, h3, h4, h5⟩
  have H3 := Lib.hid h3; clear h3
  have H5 := Lib.hid h5; clear h5
  go_wp2_with fail
  go_ret
  exact ⟨_, l', rfl, H3.out, by rw [h4, keepX_fls], H5.out⟩
-- PUT
theorem FilesOwn.lower {base base' : Nat} {W : World} {v : Value} {l : List FX} (h : FilesOwn base W v l) (hb : base' ≤ base) : FilesOwn base' W v l := by
  refine ⟨h.1, ?_⟩
  rcases h.2 with h2 | ⟨g, cap, cur, h1, h2, h3⟩
  · exact .inl h2
  · exact .inr ⟨g, cap, cur, h1, by omega, h3⟩
theorem insX_sub {l : List FX} {i : Nat} {f : FX} : ∀ x ∈ insX l i f, x = f ∨ x ∈ l := fun x hx => by
  unfold insX at hx
  rcases List.mem_append.1 hx with h | h
  · exact .inr (List.mem_of_mem_take h)
  · rcases List.mem_cons.1 h with h | h
    · exact .inl h
    · exact .inr (List.mem_of_mem_drop h)
theorem putX_sub {l : List FX} {f : FX} : ∀ x ∈ putX l f, x = f ∨ x ∈ l := fun x hx => (insX_sub x hx).imp id fun h => keepX_sub x h
theorem putX_le (l : List FX) (f : FX) : (putX l f).length ≤ l.length + 1 := by
  have h1 : (keepX l f.p).length ≤ l.length := List.length_filter_le _ _
  unfold putX insX
  have h2 := aboveX_le (keepX l f.p) f.p
  simp only [List.length_append, List.length_take, List.length_cons, List.length_drop]
  omega
theorem putX_len (l : List FX) (f : FX) (h : l.length ≤ 90000) : (putX l f).length ≤ 100000 := by have := putX_le l f; omega

set_option maxRecDepth 100000 in
set_option maxHeartbeats 4000000 in
theorem tput_any (l : List FX) (A : Option Addr) (c : Nat) (f : FX) (w : World) (h : TreeAt w A c l) (hs : SmallX l) (hn : l.length ≤ 90000) (hf : BytesAt w f.A f.b) (hfl : f.b.length ≤ 1000000) :
    Calls Tryd.prog 20 #[.slice A l.length c, .agg #[.string f.p, .slice f.A f.b.length f.c]] w (TreePost w (putT (flsX l) f.fl)) := by
  obtain ⟨W, hW⟩ : ∃ W, (w.alloc (.cells #[.string f.p, .slice f.A f.b.length f.c] 41)).drew = W := ⟨_, rfl⟩
  have hbx : W.heap[w.heap.size]? = some (Obj.cells #[.string f.p, .slice f.A f.b.length f.c] 41 (0, 0)) := by rw [← hW]; exact heap_alloc_new w _
  have hb : Below w.heap.size w W := by rw [← hW]; exact ((Below.refl _ w).alloc (Nat.le_refl _) _).drew
  have hlt : w.heap.size < W.heap.size := (Array.getElem?_eq_some_iff.1 hbx).1
  have hS : ∀ w', Below W.heap.size W w' → w'.cell? ⟨w.heap.size, 0, none⟩ = some (.string f.p) ∧ w'.cell? ⟨w.heap.size, 1, none⟩ = some (.slice f.A f.b.length f.c) := fun w' hb' =>
    ⟨(hb'.cell (p := ⟨w.heap.size, 0, none⟩) hlt).trans (cell_of_row _ _ 0 _ _ _ hbx), (hb'.cell (p := ⟨w.heap.size, 1, none⟩) hlt).trans (cell_of_row _ _ 1 _ _ _ hbx)⟩
  have hbo : BodiesLow W.heap.size W (putX l f) := fun x hx => by
    rcases putX_sub x hx with rfl | hx
    · exact ⟨hf.below hb, (hf.below hb).low, hfl⟩
    · exact (h.below hb).bodies hs x hx
  have HC := Lib.hid (clone_any l A c W (h.below hb) hs.1)
  have HBO := Lib.hid hbo; clear hbo
  have HS := Lib.hid hS; clear hS
  have HN := Lib.hid hn; clear hn
  have HB := Lib.hid hb; clear hb
  clear h hs hf hfl hbx hlt
  go_enter Tryd.func20, Tryd.ntmps20
  go_wp2_with fail
  refine wp_region_held_drew (S := fun w' => w'.cell? ⟨w.heap.size, 0, none⟩ = some (.string f.p) ∧ w'.cell? ⟨w.heap.size, 1, none⟩ = some (.slice f.A f.b.length f.c)) (by kernel_rfl) (by rw [hW]; exact HS.out _ (Below.refl _ _)) (fun hHeld => ?_)
  rw [hW] at hHeld ⊢
  refine wpAnyH_take (i := 0) (v := ?va) rfl (by kernel_rfl) (by kernel_rfl) (by kernel_rfl) (fun _ _ _ h => h) (Or.inl ⟨by rfl, ?ya⟩) (by assumption) ?ra
  case ya =>
    intro w hSw
    (try dsimp only at hSw)
    go_simp
    first | done | with_reducible rfl
  try simp only [Act.put, List.getElem_toArray, List.getElem_cons_zero, List.setIfInBounds_toArray, List.set_cons_zero, List.set_cons_succ]
  refine wpAnyH_take (i := 2) (v := ?vb) rfl (by kernel_rfl) (by kernel_rfl) (by kernel_rfl) (fun _ _ _ h => h) (Or.inl ⟨by rfl, ?yb⟩) (by assumption) ?rb
  case yb =>
    intro w hSw
    (try dsimp only at hSw)
    go_simp
    first | done | with_reducible rfl
  try simp only [Act.put, List.getElem_toArray, List.getElem_cons_zero, List.getElem_cons_succ, List.setIfInBounds_toArray, List.set_cons_zero, List.set_cons_succ]
  refine wpAnyH_ready (rs := [1]) (by kernel_rfl) (by simp) ?_
  refine AllReadyH.cons rfl (fun K hK => ?_) AllReadyH.nil
  go_simp
  refine HC.out.mono ?_
  rintro e w1 ⟨v1, rfl, h1, hb1⟩
  obtain ⟨A1, c1, rfl⟩ := h1.slice
  have HP := Lib.hid (put_any W.heap.size l _ f w1 h1 HN.out hb1.size)
  have H1 := Lib.hid h1; clear h1
  go_wp2_with fail
  refine hK.out _ _ (HS.out _ hb1) (fun hHeld => ?_)
  clear hK K
  try simp only [Act.put, List.getElem_toArray, List.getElem_cons_zero, List.getElem_cons_succ, List.setIfInBounds_toArray, List.set_cons_zero, List.set_cons_succ]
  refine wpAnyH_ready (rs := [3]) (by kernel_rfl) (by simp) ?_
  refine AllReadyH.cons rfl (fun K hK => ?_) AllReadyH.nil
  go_simp
  refine HP.out.mono ?_
  rintro e w2 ⟨v2, rfl, h2, hg2⟩
  obtain ⟨A2, c2, rfl⟩ := h2.slice
  have hb2 : Below W.heap.size W w2 := hb1.grown hg2 hb1.size fun g e => (H1.out.row e).1
  have HO := Lib.hid (run_own W.heap.size (putX l f) _ W w2 h2 (putX_len l f HN.out) (fun x hx => (HBO.out.below hb2) x hx) hb2 hb2.size)
  clear h2 hg2 hb1 HP
  go_wp2_with fail
  refine hK.out _ _ (HS.out _ hb2) (fun hHeld => ?_)
  clear hK K
  try simp only [Act.put, List.getElem_toArray, List.getElem_cons_zero, List.getElem_cons_succ, List.setIfInBounds_toArray, List.set_cons_zero, List.set_cons_succ]
  refine wpAnyH_ready (rs := [4]) (by kernel_rfl) (by simp) ?_
  refine AllReadyH.cons rfl (fun K hK => ?_) AllReadyH.nil
  go_simp
  refine HO.out.mono ?_
  rintro e w3 ⟨l', rfl, h3, h4, hb3⟩
  have H3 := Lib.hid h3; clear h3
  go_wp2_with fail
  refine hK.out _ _ (HS.out _ hb3) (fun hHeld => ?_)
  clear hK K
  try simp only [Act.put, List.getElem_toArray, List.getElem_cons_zero, List.getElem_cons_succ, List.setIfInBounds_toArray, List.set_cons_zero, List.set_cons_succ]
  refine wpAnyH_take (i := 5) (v := ?vc) rfl (by kernel_rfl) (by kernel_rfl) (by kernel_rfl) (fun _ _ _ h => h) (Or.inl ⟨by rfl, ?yc⟩) (by assumption) ?rc
  case yc =>
    intro w hSw
    (try dsimp only at hSw)
    go_simp
    first | done | with_reducible rfl
  try simp only [Act.put, List.getElem_toArray, List.getElem_cons_zero, List.getElem_cons_succ, List.setIfInBounds_toArray, List.set_cons_zero, List.set_cons_succ]
  refine wpAnyH_done (by kernel_rfl) ?_ _
  go_wp2_with fail
  go_ret
  exact ⟨_, l', rfl, ⟨H3.out.own.lower HB.out.size, H3.out.bod⟩, by rw [h4, putX_fls], HB.out.trans (hb3.mono HB.out.size)⟩
end Go.Proofs.YtedcaodbcognjaaDoor
