/-
  The contracts of owners.at, and of the closure that Of hands in: is a line asked for? · The contract of owners.gather: names into a map.
-/
import Derived.Test.YtkihgbggndikpaaGreatDoorOwUp
import Derived.Maps.OwnSet
namespace Go.Proofs.YtkihgbggndikpaaGreatDoor
open Go Go.RowKit Go.Shelf Go.Proofs
attribute [local go_sem] Oper.semAt_some

theorem results_cell_tmp {P : Program} {fn : Func} {p u : Tmp} {ty : TypeId} (h : fn.results = #[.cell p ty, .tmp u]) (tmps : Array Value) (w : World) (g : Nat) (t : TypeId) (cs : Array Value) (fr : Nat × Nat) (d : TypeDesc)
    (v : Value) (hp : tmps.getD p undef = .pointer (some ⟨g, 0, none⟩)) (hv : tmps.getD u undef = v) (hg : w.heap[g]? = some (.cells cs t fr))
    (hu : P.underlying ty = some d) (hd : (match d with | .struct _ | .array _ _ => true | _ => false) = true) (hi : (P.info? ty).map (·.size) = some cs.size) :
    (results fn tmps).run P w = .ok (.tuple #[.agg cs, v]) w := by
  subst hv
  have hp' : tmps[p]?.getD undef = .pointer (some ⟨g, 0, none⟩) := by simpa using hp
  simp [results, h, hp', asAddr, run_loadVar_row w g t ty cs fr d hg hu hd hi]
/-- A block without a text is none of a row's. -/
theorem StrsAt.other {w w' : World} {A : Option Addr} {l : List Bs} {b : Nat} {x : Bool} {v : Value} {t : TypeId} {fr : Nat × Nat} (h : StrsAt w A l) (hv : ∀ s, v ≠ .string s) (hb : w.heap[b]? = some (.cells #[.bool x, v] t fr)) (hk : ∀ j, j < w.heap.size → j ≠ b → w'.heap[j]? = w.heap[j]?) : StrsAt w' A l := fun hn => by
  obtain ⟨g, o, e, hc⟩ := h hn
  have hne : g ≠ b := fun e2 => by
    subst e2
    have h0 := hc 0 _ (List.getElem?_eq_getElem hn)
    rw [cell_of_row w g (o + 0) _ _ _ hb] at h0
    match o, h0 with
    | 0, h0 => simp at h0
    | 1, h0 => simp at h0; exact hv _ h0
    | o + 2, h0 => simp at h0
  refine ⟨g, o, e, fun i p hp => ?_⟩
  have h1 := hc i p hp
  exact (World.cell?_of_block (a := ⟨g, o + i, none⟩) (hk g (World.block_lt_of_cell? w (a := ⟨g, o + i, none⟩) h1) hne)).trans h1
theorem LinesAt.other {w w' : World} {A : Option Addr} {c : Nat} {l : List LX} {b : Nat} {x : Bool} {v : Value} {t : TypeId} {fr : Nat × Nat} (h : LinesAt w A c l) (hv : ∀ s, v ≠ .string s) (hb : w.heap[b]? = some (.cells #[.bool x, v] t fr)) (hk : ∀ j, j < w.heap.size → j ≠ b → w'.heap[j]? = w.heap[j]?) : LinesAt w' A c l :=
  ⟨h.cap, h.capm, fun hn => by
    obtain ⟨g, o, e, hr⟩ := h.row hn
    have hne : g ≠ b := fun e2 => by
      subst e2
      have h0 := (hr 0 _ (List.getElem?_eq_getElem hn)).1
      rw [cell_of_row w g (o + 0 * 2) _ _ _ hb] at h0
      match o, h0 with
      | 0, h0 => simp at h0
      | 1, h0 => simp at h0; exact hv _ h0
      | o + 2, h0 => simp at h0
    exact ⟨g, o, e, hr.keep fun hg => hk g hg hne⟩, fun y hy => ⟨(h.own y hy).1.other hv hb hk, (h.own y hy).2⟩⟩

def AtPost (t : List Fl) (d : Bs) (w : World) (e : Ending) (w' : World) : Prop := ∃ v, e = .returned (.tuple #[v, .int .i64 (atT t d).1]) ∧ OwAt w' v (atT t d).2 ∧ Below w.heap.size w w'
theorem ow_agg {w : World} {v : Value} {o : Ow} (h : OwAt w v o) : ∃ A c l, v = .agg #[.bool o.1, .slice A l.length c] ∧ LinesAt w A c l ∧ lnsX l = o.2 := h

set_option maxRecDepth 100000 in
set_option maxHeartbeats 4000000 in
theorem at_any (l : List FX) (A : Option Addr) (c : Nat) (d : ByteArray) (w : World) (h : TreeAt w A c l) (hs : SmallX l) (hd : d.size ≤ 1000000) (hm : MaxOk w) (hT : TabsOk w) :
    Calls Tryz.prog 56 #[.slice A l.length c, .string d] w (AtPost (flsX l) d.data.toList w) := by
  have hb0 : Below w.heap.size w (w.alloc (.cells #[.bool false, .slice none 0 0] 24)) := (Below.refl _ w).alloc (Nat.le_refl _) _
  have hn := heap_alloc_new w (.cells #[.bool false, .slice none 0 0] 24)
  have HJ := Lib.hid (join_any d ⟨#[79, 87, 78, 69, 82, 83]⟩ (w.alloc (.cells #[.bool false, .slice none 0 0] 24)) hd (by decide))
  have hget := tget_any l A c (mkB (join2 d.data.toList ownW)) (w.alloc (.cells #[.bool false, .slice none 0 0] 24)) (h.below hb0) hs
  rw [mkB_data] at hget
  unfold GetPost at hget
  cases hg : getT (flsX l) (join2 d.data.toList ownW) with
  | none =>
    rw [hg] at hget
    have hat : atT (flsX l) d.data.toList = (0, emptyO) := by unfold atT; rw [hg]
    have HA := Lib.hid hat
    have HG := Lib.hid hget
    have HB := Lib.hid hb0
    have HN := Lib.hid hn
    clear hget hg hat h hs hb0 hn
    go_enter Tryz.func56, Tryz.ntmps56
    go_wp2_with fail
    refine HJ.out.mono ?_
    rintro e w1 ⟨rfl, hw⟩
    have hw := hw.symm
    subst hw
    go_wp2_with fail
    refine HG.out.mono ?_
    rintro e w2 ⟨rfl, hb2⟩
    have hlt : w.heap.size < (w.alloc (.cells #[.bool false, .slice none 0 0] 24)).heap.size := by simp
    have hn2 := (hb2.block _ hlt).trans HN.out
    have c0 : w2.cell? ⟨w.heap.size, 0, none⟩ = some (.bool false) := cell_of_row _ _ 0 _ _ _ hn2
    have c1 : w2.cell? ⟨w.heap.size, 1, none⟩ = some (.slice none 0 0) := cell_of_row _ _ 1 _ _ _ hn2
    have f0 : w2.frozen? ⟨w.heap.size, 0, none⟩ = false := frozen_of_row _ _ _ _ _ hn2
    have f1 : w2.frozen? ⟨w.heap.size, 1, none⟩ = false := frozen_of_row _ _ _ _ _ hn2
    have HN2 := Lib.hid hn2
    have HB2 := Lib.hid hb2
    clear hn2 hb2 hlt
    go_wp2_with fail
    have h4 := heap_setCell_same _ _ 1 _ _ (.slice none 0 0) (heap_setCell_same _ _ 0 _ _ (.bool false) HN2.out)
    refine bodyPost_ret (results_cell_tmp rfl _ _ w.heap.size _ #[.bool false, .slice none 0 0] (0, 0) _ (.int .i64 0) rfl rfl h4 Tryz.underlying24 rfl (by kernel_rfl)) rfl ?_
    refine ⟨owV false none 0 0, by rw [HA.out]; rfl, by rw [HA.out]; exact OwAt.empty _, ?_⟩
    exact ((HB.out.trans (HB2.out.mono HB.out.size)).setCell (p := ⟨w.heap.size, 0, none⟩) (Nat.le_refl _) _).setCell (p := ⟨w.heap.size, 1, none⟩) (Nat.le_refl _) _
  | some b =>
    rw [hg] at hget
    have hat : atT (flsX l) d.data.toList = parseV b := by unfold atT; rw [hg]
    have HA := Lib.hid hat
    have HG := Lib.hid hget
    have HB := Lib.hid hb0
    have HN := Lib.hid hn
    have HS := Lib.hid hs
    clear hget hat h hs hb0 hn
    have hbl : b.length ≤ maxLen := by
      rcases place_get l (mkB (join2 d.data.toList ownW)) with ⟨_, h2, _⟩ | ⟨k, x, _, h2, h3, _⟩
      · rw [mkB_data, hg] at h2; cases h2
      · rw [mkB_data, hg] at h3
        simp only [Option.some.injEq] at h3
        have := (HS.out.2 x (List.mem_of_getElem? h2)).2
        rw [h3]; unfold maxLen; omega
    clear hg
    go_enter Tryz.func56, Tryz.ntmps56
    go_wp2_with fail
    refine HJ.out.mono ?_
    rintro e w1 ⟨rfl, hw⟩
    have hw := hw.symm
    subst hw
    go_wp2_with fail
    refine HG.out.mono ?_
    rintro e w2 ⟨A2, c2, rfl, hbo, hb2⟩
    have hcv := run_str w2 A2 c2 b hbo.at_
    have hm2 := (hm.below HB.out).below hb2
    have hT2 := (hT.below (Nat.le_refl _) HB.out).below (Nat.le_refl _) hb2
    have hlt : w.heap.size < (w.alloc (.cells #[.bool false, .slice none 0 0] 24)).heap.size := by simp
    have hn2 := (hb2.block _ hlt).trans HN.out
    have HP := Lib.hid (parse_all (mkB b) w2 (by rw [mkB_size]; exact hbl) hm2 hT2)
    have HN2 := Lib.hid hn2
    have HB2 := Lib.hid hb2
    clear hn2 hb2 hbo hlt
    go_wp2_with fail
    refine HP.out.mono ?_
    rintro e w3 ⟨v, rfl, hov, hb3⟩
    obtain ⟨A3, c3, l3, rfl, hL3, hl3⟩ := ow_agg hov
    have hlt2 : w.heap.size < w2.heap.size := (Array.getElem?_eq_some_iff.1 HN2.out).1
    have hn3 := (hb3.block _ hlt2).trans HN2.out
    have c0 : w3.cell? ⟨w.heap.size, 0, none⟩ = some (.bool false) := cell_of_row _ _ 0 _ _ _ hn3
    have c1 : w3.cell? ⟨w.heap.size, 1, none⟩ = some (.slice none 0 0) := cell_of_row _ _ 1 _ _ _ hn3
    have f0 : w3.frozen? ⟨w.heap.size, 0, none⟩ = false := frozen_of_row _ _ _ _ _ hn3
    have f1 : w3.frozen? ⟨w.heap.size, 1, none⟩ = false := frozen_of_row _ _ _ _ _ hn3
    have HN3 := Lib.hid hn3
    have HL3 := Lib.hid hL3
    have HE3 := Lib.hid hl3
    have HB3 := Lib.hid hb3
    clear hn3 hL3 hl3 hb3 hov
    go_wp2_with fail
    have h4 := heap_setCell_same _ _ 1 _ _ (.slice A3 l3.length c3) (heap_setCell_same _ _ 0 _ _ (.bool (parseV (mkB b).data.toList).2.1) HN3.out)
    refine bodyPost_ret (results_cell_tmp rfl _ _ w.heap.size _ #[.bool (parseV (mkB b).data.toList).2.1, .slice A3 l3.length c3] (0, 0) _ (.int .i64 (parseV (mkB b).data.toList).1) rfl rfl h4 Tryz.underlying24 rfl (by kernel_rfl)) rfl ?_
    have he3 := HE3.out
    rw [mkB_data] at he3 ⊢
    have hB2 := HB.out.trans (HB2.out.mono HB.out.size)
    refine ⟨owV (parseV b).2.1 A3 l3.length c3, by rw [HA.out]; rfl, by
      rw [HA.out]
      exact ⟨A3, c3, l3, rfl, HL3.out.other (fun s => by simp) HN3.out (fun j _ hj => (heap_setCell_other _ ⟨w.heap.size, 1, none⟩ j _ hj).trans (heap_setCell_other _ ⟨w.heap.size, 0, none⟩ j _ hj)), he3⟩, ?_⟩
    exact ((hB2.trans (HB3.out.mono hB2.size)).setCell (p := ⟨w.heap.size, 0, none⟩) (Nat.le_refl _) _).setCell (p := ⟨w.heap.size, 1, none⟩) (Nat.le_refl _) _

set_option maxRecDepth 100000 in
set_option maxHeartbeats 2000000 in
theorem ask_any (b8 b7 b3 : Nat) (d h s g : ByteArray) (w : World) (x8 : Boxed w b8 9 (.string d)) (x7 : Boxed w b7 9 (.string h)) (x3 : Boxed w b3 9 (.string s)) (hg : g.size ≤ 1000000) (hs : s.size ≤ 1000000) (hm : MaxOk w) :
    Calls Tryz.prog 58 #[.string g, .pointer (some ⟨b8, 0, none⟩), .pointer (some ⟨b7, 0, none⟩), .pointer (some ⟨b3, 0, none⟩)] w fun e w' => e = .returned (.bool (askB h.data.toList (baseL s.data.toList) d.data.toList g.data.toList)) ∧ Below w.heap.size w w' := by
  have c8 := x8.cell
  have c7 := x7.cell
  have c3 := x3.cell
  have hask : askB h.data.toList (baseL s.data.toList) d.data.toList g.data.toList = ((d.toList == h.toList) && matchB g.data.toList (baseA s).data.toList) := by
    unfold askB; rw [base_list, ByteArray.toList_eq, ByteArray.toList_eq]
  have HS := Lib.hid hask; clear hask
  have HB := Lib.hid (base_any s w hs)
  have hbs : (baseA s).size ≤ maxLen := by
    unfold baseA; rw [ByteArray.size_extract]; unfold maxLen; omega
  have HM := Lib.hid (match_any g (baseA s) w (by unfold maxLen; omega) hbs hm)
  clear hbs x8 x7 x3
  cases hq : (d.toList == h.toList) with
  | false =>
    have HQ := Lib.hid hq
    go_enter Tryz.func58, Tryz.ntmps58
    go_wp2_with fail
    go_ret
    exact ⟨ret_bool (by rw [HS.out, HQ.out]; rfl), Below.refl _ _⟩
  | true =>
    have HQ := Lib.hid hq
    go_enter Tryz.func58, Tryz.ntmps58
    go_wp2_with fail
    refine HB.out.mono ?_
    rintro e w' ⟨rfl, hw⟩
    have hw := hw.symm
    subst hw
    go_wp2_with fail
    refine HM.out.mono ?_
    rintro e w2 ⟨rfl, hb2⟩
    go_wp2_with fail
    go_ret
    exact ⟨ret_bool (by rw [HS.out, HQ.out]; rfl), hb2⟩
end Go.Proofs.YtkihgbggndikpaaGreatDoor
namespace Go.Proofs.YtkihgbggndikpaaGreatDoor
open Go Go.RowKit Go.Shelf Go.Proofs Go.ChangeMaps Go.Maps Go.WideMaps
attribute [local go_sem] Oper.semAt_some

theorem skeyed : Keyed Tryz.prog 9 := string_keyed Tryz.underlying9
/-- The map in block mb has these names. -/
def SetAt (w : World) (mb n : Nat) (K : List Bs) : Prop := ∃ (k : Nat) (D : DataW Unit), w.ownsMap Tryz.prog 9 unitElem mb k D ∧ k ≤ n ∧ ∀ s : Bs, Maps.has D (.string s) = true ↔ s ∈ K
theorem SetAt.kept {w w' : World} {mb n : Nat} {K : List Bs} {row : Option Nat} (h : SetAt w mb n K) (hg : w.grownBy w' row) (hne : row ≠ some mb) : SetAt w' mb n K := by
  obtain ⟨k, D, h1, h2, h3⟩ := h
  have hl := h1.lt
  obtain ⟨es, clock, he, F, hs, hD⟩ := h1
  exact ⟨k, D, ⟨es, clock, (hg.block mb hl (fun e => hne e.symm)).trans he, F, hs, hD⟩, h2, h3⟩
theorem SetAt.below {w w' : World} {mb n : Nat} {K : List Bs} (h : SetAt w mb n K) (hb : Below w.heap.size w w') : SetAt w' mb n K := h.kept (grown_below none hb) (by simp)
theorem SetAt.map {w : World} {mb n : Nat} {K : List Bs} (h : SetAt w mb n K) : ∃ es clock, w.heap[mb]? = some (.map es clock) := by
  obtain ⟨_, _, ⟨es, clock, he, _⟩, _⟩ := h
  exact ⟨es, clock, he⟩
theorem SetAt.more {w : World} {mb n m : Nat} {K : List Bs} (h : SetAt w mb n K) (hn : n ≤ m) : SetAt w mb m K := by
  obtain ⟨k, D, h1, h2, h3⟩ := h
  exact ⟨k, D, h1, Nat.le_trans h2 hn, h3⟩
theorem SetAt.put {W : World} {mb k n : Nat} {K : List Bs} {D : DataW Unit} {s : Bs} (h1 : W.ownsMap Tryz.prog 9 unitElem mb (k + 1) (D.put (.string s) (.agg []))) (hD : Maps.IsMap D) (hk : k ≤ n) (h3 : ∀ s : Bs, Maps.has D (.string s) = true ↔ s ∈ K) : SetAt W mb (n + 1) (addS K s) := by
  have hkl : WideAt.IsKeyLit (.string s) := by simp [WideAt.IsKeyLit]
  refine ⟨k + 1, _, h1, by omega, fun t => ?_⟩
  rw [addS_mem]
  by_cases e : t = s
  · subst e
    rw [Maps.has_put_same hD hkl]; simp
  · rw [Maps.has_put_other (fun h => e (by simpa using h)), h3 t]
    simp [e]
theorem KeepC.of_grown {w w' : World} {mb : Nat} (h : w.grownBy w' (some mb)) (hm : ∃ es clock, w.heap[mb]? = some (.map es clock)) : KeepC w w' := ⟨h.size, fun j o hj hc => by
  refine (h.block j (Array.getElem?_eq_some_iff.1 hj).1 (fun e => ?_)).trans hj
  have e : j = mb := by simpa using e
  subst e
  obtain ⟨es, ck, he⟩ := hm
  rw [he] at hj; cases hj; cases hc⟩

def GatherPost (w : World) (mb n : Nat) (K : List Bs) (e : Ending) (w' : World) : Prop := e = .returned (.tuple #[]) ∧ SetAt w' mb n K ∧ w.grownBy w' (some mb)
theorem gatherS_snoc (K : List Bs) (ls : List Ln) (x : Ln) (p : Bs → Bool) : gatherS K (ls ++ [x]) p = if x.1.isEmpty || p x.1 then x.2.foldl addS (gatherS K ls p) else gatherS K ls p := by
  unfold gatherS; rw [List.foldl_append]; rfl

set_option maxRecDepth 100000 in
set_option maxHeartbeats 8000000 in
theorem gather_any (mb n b8 b7 b3 : Nat) (K : List Bs) (np : Bool) (A : Option Addr) (c : Nat) (L : List LX) (d h s : ByteArray) (w : World) (hL : LinesAt w A c L) (hok : ∀ x ∈ L, okLn 16384 x.ln) (hl : L.length ≤ 16385) (hn : n ≤ 100000000000)
    (hK : SetAt w mb n K) (x8 : Boxed w b8 9 (.string d)) (x7 : Boxed w b7 9 (.string h)) (x3 : Boxed w b3 9 (.string s)) (hs : s.size ≤ 1000000) (hm : MaxOk w) :
    Calls Tryz.prog 57 #[.map (some mb), owV np A L.length c, .func (.func 58) #[] #[.pointer (some ⟨b8, 0, none⟩), .pointer (some ⟨b7, 0, none⟩), .pointer (some ⟨b3, 0, none⟩)]] w
      (GatherPost w mb (n + L.length * 16385) (gatherS K (lnsX L) (askB h.data.toList (baseL s.data.toList) d.data.toList))) := by
  have ef := enters_of (P := Tryz.prog) Tryz.func58 (by kernel_rfl) rfl
  obtain ⟨p, hp⟩ : ∃ p, askB h.data.toList (baseL s.data.toList) d.data.toList = p := ⟨_, rfl⟩
  have hask : ∀ (W : World) (g : ByteArray), KeepC w W → g.size ≤ 1000000 → Calls Tryz.prog 58 #[.string g, .pointer (some ⟨b8, 0, none⟩), .pointer (some ⟨b7, 0, none⟩), .pointer (some ⟨b3, 0, none⟩)] W fun e w' => e = .returned (.bool (p g.data.toList)) ∧ Below W.heap.size W w' := fun W g hk hg => by
    rw [← hp]
    exact ask_any b8 b7 b3 d h s g W (hk.box x8) (hk.box x7) (hk.box x3) hg hs (hk.max hm)
  rw [hp]
  have HASK := Lib.hid hask
  have HL := Lib.hid hL
  have HOK := Lib.hid hok
  have HK := Lib.hid hK
  have HMAP := Lib.hid hK.map
  have hlc : L.length ≤ 16385 := hl
  unfold owV
  clear hask hp x8 x7 x3 hm hL hok hK
  go_enter Tryz.func57, Tryz.ntmps57
  go_wp2_with fail
  go_loopw [13] (fun v13 wr => ∃ k : Nat, v13 = .int .i64 k ∧ k ≤ L.length ∧ SetAt wr mb (n + k * 16385) (gatherS K ((lnsX L).take k) p) ∧ w.grownBy wr (some mb)) (fun v13 _ => L.length - (intOf v13).toNat)
  case atStart => exact ⟨0, rfl, Nat.zero_le _, by rw [Nat.zero_mul]; exact HK.out.below ((Below.refl _ w).alloc (Nat.le_refl _) _), World.grownBy_alloc _ _ _⟩
  case round =>
    obtain ⟨k, rfl, hk, hset, hgr⟩ := hrel
    by_cases hlt : k < L.length
    · obtain ⟨x, hx⟩ : ∃ x, L[k]? = some x := ⟨_, List.getElem?_eq_getElem hlt⟩
      have hkc := KeepC.of_grown hgr HMAP.out
      obtain ⟨g, o, hA, hrow⟩ := HL.out.row (by omega)
      subst hA
      have c12 := hrow k x hx
      have hxm := List.mem_of_getElem? hx
      obtain ⟨xg, xA, xc, xns⟩ := x
      have HOKX := Lib.hid (HOK.out _ hxm)
      obtain ⟨ok1, ok2, ok3, _⟩ := HOK.out _ hxm
      have ok1 : xg.size ≤ 16384 := by have : xg.data.toList.length ≤ 16384 := ok1; rwa [Array.length_toList] at this
      have ok2 : xns.length ≤ 16385 := ok2
      have hown : StrsAt wr xA xns := hkc.strs (HL.out.own _ hxm).1
      have hsn : (lnsX L).take (k + 1) = (lnsX L).take k ++ [(⟨xg, xA, xc, xns⟩ : LX).ln] := by rw [List.take_add_one, lnsX_getElem?, hx]; rfl
      have hgs : gatherS K ((lnsX L).take (k + 1)) p = if xg.data.toList.isEmpty || p xg.data.toList then xns.foldl addS (gatherS K ((lnsX L).take k) p) else gatherS K ((lnsX L).take k) p := by rw [hsn, gatherS_snoc]; rfl
      obtain ⟨K1, hK1⟩ : ∃ K1, gatherS K ((lnsX L).take k) p = K1 := ⟨_, rfl⟩
      rw [hK1] at hset hgs
      have HGS := Lib.hid hgs
      have HOWN := Lib.hid hown
      have HSET := Lib.hid hset
      have HGR := Lib.hid hgr
      have HKC := Lib.hid hkc
      have HOK3 := Lib.hid ok3
      have HX := Lib.hid hx
      clear hx hgs hown hset hgr hkc ok3 hsn hK1 hrow hxm
      have k1 : (k : Int) < (L.length : Int) := by omega
      have c1 : wr.cell? ⟨g, o + k * 2, none⟩ = some (.string xg) := HKC.out.cell c12.1
      have c2 : wr.cell? ⟨g, o + k * 2 + 1, none⟩ = some (.slice xA xns.length xc) := HKC.out.cell c12.2
      clear c12
      by_cases hge : xg.toList = []
      · have g1 : (!xg.toList.isEmpty) = false := by simp [hge]
        have g2 : xg.toList.isEmpty = true := by simp [hge]
        have HE : Hid ((xg.data.toList.isEmpty || p xg.data.toList) = true) := by unfold Hid; rw [← ByteArray.toList_eq, hge]; rfl
        clear hge
        obtain ⟨wc, hwc⟩ : ∃ wc, wc = wr := ⟨_, rfl⟩
        subst hwc
        go_wp2_with fail
        obtain ⟨W1, hW1⟩ : ∃ W, wc.alloc (.cells #[.string xg, .slice xA xns.length xc] 62) = W := ⟨_, rfl⟩
        have hb1 : Below wc.heap.size wc W1 := by rw [← hW1]; exact (Below.refl _ _).alloc (Nat.le_refl _) _
        rw [hW1]
        clear hW1
        have hS1 := HSET.out.below hb1
        have hg1 : w.grownBy W1 (some mb) := grown_trans HGR.out (grown_below _ hb1)
        have hown1 := (KeepC.of_below hb1).strs HOWN.out
        clear hb1
        obtain ⟨K1m, hmap1⟩ := hS1.map
        have hkx : okLn 16384 (⟨xg, xA, xc, xns⟩ : LX).ln := HOKX.out
        have HS1 := Lib.hid hS1
        have HG1 := Lib.hid hg1
        have HM1 := Lib.hid hmap1
        have HO1 := Lib.hid hown1
        clear hS1 hg1 hmap1 hown1 hkx
        go_loopw [30] (fun v30 wq => ∃ j : Nat, v30 = .int .i64 j ∧ j ≤ xns.length ∧ SetAt wq mb (n + k * 16385 + j) ((xns.take j).foldl addS K1) ∧ W1.grownBy wq (some mb)) (fun v30 _ => xns.length - (intOf v30).toNat)
        case atStart => exact ⟨0, rfl, Nat.zero_le _, HS1.out, World.grownBy.refl _ _⟩
        case round =>
          obtain ⟨j, rfl, hj, hset, hgr⟩ := hrel
          by_cases hjl : j < xns.length
          · obtain ⟨y, hy⟩ : ∃ y, xns[j]? = some y := ⟨_, List.getElem?_eq_getElem hjl⟩
            obtain ⟨g2, o2, hA2, hc2⟩ := (KeepC.of_grown hgr ⟨_, HM1.out⟩).strs HO1.out (by omega)
            subst hA2
            have d1 := hc2 j y hy
            have hyn := HOKX.out.2.2.1 y (List.mem_of_getElem? hy)
            have hys : (mkB y).size ≤ maxLen := by
              rw [mkB_size]
              unfold namedB at hyn
              simp only [Bool.and_eq_true, decide_eq_true_eq] at hyn
              have := hyn.1.2
              unfold maxLen; omega
            have hst : (xns.take (j + 1)).foldl addS K1 = addS ((xns.take j).foldl addS K1) y := by rw [List.take_add_one, hy, List.foldl_append]; rfl
            obtain ⟨kk, D, hown, hkn, hhas⟩ := hset
            have hkey : keyOf Tryz.prog 9 (.string (mkB y)) = some (.string y) := by
              have := keyOf_string_mk (P := Tryz.prog) Tryz.underlying9 hys
              rwa [mkB_data] at this
            have HKEY := Lib.hid hkey
            have HST := Lib.hid hst
            have HH := Lib.hid hhas
            have j1 : (j : Int) < (xns.length : Int) := by omega
            have HOWN1 := Lib.hid hown
            have HGR2 := Lib.hid hgr
            clear hc2 hy hyn hys hst hkey hhas hown hgr
            go_wp2_with (at_mapUpdate; go_loud (refine wpList_mapUpdate_own _ rfl _ _ _ 89 rfl 9 95 skeyed Tryz.underlying89 unitElem mb kk D rfl HOWN1.out (by unfold maxLen; omega) _ _ _ rfl rfl HKEY.out (.agg []) [] unitElem_mk ?_; intro w5 hown5 hgr5; have HOWN5 := Lib.hid hown5; have HGR5 := Lib.hid hgr5; clear hown5 hgr5))
            go_roundw
            case rel =>
              refine ⟨j + 1, by go_num, by omega, ?_, grown_trans HGR2.out HGR5.out⟩
              rw [HST.out]
              exact SetAt.put HOWN5.out HOWN1.out.isMap hkn HH.out
            case measure => simp [intOf]; omega
          · obtain rfl : j = xns.length := by omega
            rw [List.take_of_length_le (Nat.le_refl _)] at hset
            have HSE := Lib.hid hset
            have HGR2 := Lib.hid hgr
            clear hset hgr
            go_wp2_with fail
            go_roundw
            case rel =>
              refine ⟨k + 1, by go_num, by omega, ?_, grown_trans HG1.out HGR2.out⟩
              rw [HGS.out, if_pos HE.out]
              exact HSE.out.more (by have : xns.length ≤ 16385 := ok2; omega)
            case measure => simp [intOf]; omega
      · have g1 : (!xg.toList.isEmpty) = true := by
          cases e : xg.toList with
          | nil => exact absurd e hge
          | cons _ _ => rfl
        have g2 : xg.toList.isEmpty = false := by simpa using hge
        have hge2 : xg.data.toList.isEmpty = false := by rw [← ByteArray.toList_eq]; exact g2
        have hb1 : Below wr.heap.size wr (wr.alloc (.cells #[.string xg, .slice xA xns.length xc] 62)) := (Below.refl _ _).alloc (Nat.le_refl _) _
        have hn1 := heap_alloc_new wr (.cells #[.string xg, .slice xA xns.length xc] 62)
        have HA := Lib.hid (HASK.out _ xg (HKC.out.trans (KeepC.of_below hb1)) (by omega))
        obtain ⟨wc, hwc⟩ : ∃ wc, wc = wr := ⟨_, rfl⟩
        subst hwc
        have HB1 := Lib.hid hb1
        have HN1 := Lib.hid hn1
        clear hb1 hn1 hge
        go_wp2_with fail
        refine HA.out.mono ?_
        rintro e W1 ⟨rfl, hbw⟩
        have hb1 := HB1.out.trans (hbw.mono HB1.out.size)
        have hlt1 : wc.heap.size < (wc.alloc (.cells #[.string xg, .slice xA xns.length xc] 62)).heap.size := by simp
        have d2 : W1.cell? ⟨wc.heap.size, 1, none⟩ = some (.slice xA xns.length xc) := cell_of_row _ _ 1 _ _ _ ((hbw.block _ hlt1).trans HN1.out)
        have hS1 := HSET.out.below hb1
        have hg1 : w.grownBy W1 (some mb) := grown_trans HGR.out (grown_below _ hb1)
        have hown1 := (KeepC.of_below hb1).strs HOWN.out
        clear hb1 hbw hlt1
        cases hq : p xg.data.toList with
        | false =>
          have HE : Hid ((xg.data.toList.isEmpty || p xg.data.toList) = false) := by unfold Hid; rw [hge2, hq]; rfl
          have HQ := Lib.hid hq
          have HS1 := Lib.hid hS1
          have HG1 := Lib.hid hg1
          clear hq hS1 hg1 hown1 hge2
          go_wp2_with fail
          go_roundw
          case rel =>
            refine ⟨k + 1, by go_num, by omega, ?_, HG1.out⟩
            rw [HGS.out, if_neg (by rw [HE.out]; simp)]
            exact HS1.out.more (by omega)
          case measure => simp [intOf]; omega
        | true =>
          have HE : Hid ((xg.data.toList.isEmpty || p xg.data.toList) = true) := by unfold Hid; rw [hge2, hq]; rfl
          have HQ := Lib.hid hq
          clear hq hge2
          go_wp2_with fail
          obtain ⟨K1m, hmap1⟩ := hS1.map
          have hkx : okLn 16384 (⟨xg, xA, xc, xns⟩ : LX).ln := HOKX.out
          have HS1 := Lib.hid hS1
          have HG1 := Lib.hid hg1
          have HM1 := Lib.hid hmap1
          have HO1 := Lib.hid hown1
          clear hS1 hg1 hmap1 hown1 hkx
          go_loopw [30] (fun v30 wq => ∃ j : Nat, v30 = .int .i64 j ∧ j ≤ xns.length ∧ SetAt wq mb (n + k * 16385 + j) ((xns.take j).foldl addS K1) ∧ W1.grownBy wq (some mb)) (fun v30 _ => xns.length - (intOf v30).toNat)
          case atStart => exact ⟨0, rfl, Nat.zero_le _, HS1.out, World.grownBy.refl _ _⟩
          case round =>
            obtain ⟨j, rfl, hj, hset, hgr⟩ := hrel
            by_cases hjl : j < xns.length
            · obtain ⟨y, hy⟩ : ∃ y, xns[j]? = some y := ⟨_, List.getElem?_eq_getElem hjl⟩
              obtain ⟨g2, o2, hA2, hc2⟩ := (KeepC.of_grown hgr ⟨_, HM1.out⟩).strs HO1.out (by omega)
              subst hA2
              have d1 := hc2 j y hy
              have hyn := HOKX.out.2.2.1 y (List.mem_of_getElem? hy)
              have hys : (mkB y).size ≤ maxLen := by
                rw [mkB_size]
                unfold namedB at hyn
                simp only [Bool.and_eq_true, decide_eq_true_eq] at hyn
                have := hyn.1.2
                unfold maxLen; omega
              have hst : (xns.take (j + 1)).foldl addS K1 = addS ((xns.take j).foldl addS K1) y := by rw [List.take_add_one, hy, List.foldl_append]; rfl
              obtain ⟨kk, D, hown, hkn, hhas⟩ := hset
              have hkey : keyOf Tryz.prog 9 (.string (mkB y)) = some (.string y) := by
                have := keyOf_string_mk (P := Tryz.prog) Tryz.underlying9 hys
                rwa [mkB_data] at this
              have HKEY := Lib.hid hkey
              have HST := Lib.hid hst
              have HH := Lib.hid hhas
              have j1 : (j : Int) < (xns.length : Int) := by omega
              have HOWN1 := Lib.hid hown
              have HGR2 := Lib.hid hgr
              clear hc2 hy hyn hys hst hkey hhas hown hgr
              go_wp2_with (at_mapUpdate; go_loud (refine wpList_mapUpdate_own _ rfl _ _ _ 89 rfl 9 95 skeyed Tryz.underlying89 unitElem mb kk D rfl HOWN1.out (by unfold maxLen; omega) _ _ _ rfl rfl HKEY.out (.agg []) [] unitElem_mk ?_; intro w5 hown5 hgr5; have HOWN5 := Lib.hid hown5; have HGR5 := Lib.hid hgr5; clear hown5 hgr5))
              go_roundw
              case rel =>
                refine ⟨j + 1, by go_num, by omega, ?_, grown_trans HGR2.out HGR5.out⟩
                rw [HST.out]
                exact SetAt.put HOWN5.out HOWN1.out.isMap hkn HH.out
              case measure => simp [intOf]; omega
            · obtain rfl : j = xns.length := by omega
              rw [List.take_of_length_le (Nat.le_refl _)] at hset
              have HSE := Lib.hid hset
              have HGR2 := Lib.hid hgr
              clear hset hgr
              go_wp2_with fail
              go_roundw
              case rel =>
                refine ⟨k + 1, by go_num, by omega, ?_, grown_trans HG1.out HGR2.out⟩
                rw [HGS.out, if_pos HE.out]
                exact HSE.out.more (by have : xns.length ≤ 16385 := ok2; omega)
              case measure => simp [intOf]; omega
    · obtain rfl : k = L.length := by omega
      rw [List.take_of_length_le (by rw [lnsX_length]; omega)] at hset
      have HSET := Lib.hid hset
      clear hset
      go_wp2_with fail
      go_end0
      exact ⟨rfl, HSET.out, hgr⟩
end Go.Proofs.YtkihgbggndikpaaGreatDoor
