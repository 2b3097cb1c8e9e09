/-
  A map's names, sorted: they are the row that rises. No program is named here, but the type of its keys. · The contract of owners.Of. · The document's SameTexts of any two rows; owners.Of of what is no path. · The contract of quilterlaw08.known. · The contract of owners.Same: two Owners are the same, where they tell the same.
-/
import Derived.Test.YtkihgbggndikpaaGreatDoorOwGather
import Derived.Test.YtkihgbggndikpaaGreatDoorIter
import Derived.WalkSmall
import Derived.Carry
import Derived.WalkMore
import Derived.BigRegion
import Derived.Lib.SlBytesConst
namespace Go.Proofs.YtkihgbggndikpaaGreatDoor
open Go Go.RowKit Go.Shelf Go.Proofs Go.ChangeMaps Go.Maps Go.WideMaps

theorem leB_of_ltB (a b : Bs) (h : ltB a b = true) : leB a b = true := by
  have : ∀ a b : Bs, ltB a b = true → ¬ b < a := by
    intro a
    induction a with
    | nil => intro b _; exact List.not_lt_nil _
    | cons x a ih =>
      intro b h
      cases b with
      | nil => rw [ltB_nil_right] at h; cases h
      | cons y b =>
        rw [ltB_cons] at h
        simp only [Bool.or_eq_true, decide_eq_true_eq, Bool.and_eq_true, beq_iff_eq] at h
        rw [List.cons_lt_cons_iff]
        rintro (h2 | ⟨rfl, h2⟩)
        · rcases h with h | ⟨rfl, _⟩
          · exact absurd (UInt8.lt_trans h h2) (UInt8.lt_irrefl _)
          · exact absurd h2 (UInt8.lt_irrefl _)
        · rcases h with h | ⟨_, h⟩
          · exact absurd h (UInt8.lt_irrefl _)
          · exact ih b h h2
  simp only [leB, decide_eq_true_eq]
  exact List.not_lt.1 (this a b h)
theorem rising_nodup {K : List Bs} (h : risingB K) : K.Nodup := List.Pairwise.imp (fun h e => by subst e; rw [ltB_irrefl] at h; cases h) h
theorem sorted_rising {w : World} {mb k : Nat} {D : DataW Unit} {K ss : List Bs} (h : w.ownsMap Tryz.prog 9 unitElem mb k D) (hm : ∀ s : Bs, Maps.has D (.string s) = true ↔ s ∈ K) (hK : risingB K) (hs : ss.Perm (strKeys D)) : ss.mergeSort leB = K := by
  obtain ⟨es, rfl, hks⟩ := h.keysOf
  obtain ⟨es', e, hp⟩ := h.tidy skeyed
  cases e
  have hperm : K.Perm (strKeys (.map es)) := perm_strKeys hp (fun p hp => by
    obtain ⟨key, hkey⟩ := hks p hp
    obtain ⟨x, _, hx, _⟩ := Maps.keyOf_str Tryz.underlying9 hkey
    exact ⟨x, hx⟩) (rising_nodup hK) (fun x => (hm x).symm)
  rw [mergeSort_of_perm (hs.trans hperm.symm)]
  have tr : ∀ a b c : List UInt8, leB a b = true → leB b c = true → leB a c = true := fun a b c h1 h2 => by simp only [leB, decide_eq_true_eq] at *; exact List.le_trans h1 h2
  have tot : ∀ a b : List UInt8, (leB a b || leB b a) = true := fun a b => by simp only [leB, Bool.or_eq_true, decide_eq_true_eq]; exact List.le_total a b
  refine List.Perm.eq_of_pairwise (le := fun a b => leB a b = true) (fun a b _ _ h1 h2 => ?_) (List.pairwise_mergeSort tr tot K) (hK.imp (fun {a b} h => leB_of_ltB a b h)) (List.mergeSort_perm K leB)
  simp only [leB, decide_eq_true_eq] at h1 h2
  exact List.le_antisymm h1 h2
theorem size_of {w : World} {mb k : Nat} {D : DataW Unit} (h : w.ownsMap Tryz.prog 9 unitElem mb k D) : Maps.size D ≤ k := h.size_le
end Go.Proofs.YtkihgbggndikpaaGreatDoor
namespace Go.Proofs.YtkihgbggndikpaaGreatDoor
open Go Go.RowKit Go.Shelf Go.Proofs Go.ChangeMaps Go.Maps Go.WideMaps
attribute [local go_sem] Oper.semAt_some

/-- A row of texts, and an error. -/
def TextsPost (r : Int × List Bs) (w : World) (e : Ending) (w' : World) : Prop := ∃ A c, e = .returned (.tuple #[.slice A r.2.length c, .int .i64 r.1]) ∧ StrsAt w' A r.2 ∧ r.2.length ≤ c ∧ c ≤ maxLen ∧ Below w.heap.size w w'

def OfB (l : List FX) (A : Option Addr) (c : Nat) (s : ByteArray) (w : World) (gm : Nat) (W : World) : Prop :=
  Boxed W w.heap.size 37 (.slice A l.length c) ∧ Boxed W (w.heap.size + 1) 9 (.string s) ∧ Boxed W (w.heap.size + 2) 39 (.slice none 0 0) ∧ Boxed W (w.heap.size + 3) 27 (.int .i64 0) ∧
    Boxed W (gm + 1) 89 (.map (some gm)) ∧ Boxed W (gm + 2) 9 (.string (mkB (dirL s.data.toList))) ∧ Below w.heap.size w W ∧ gm + 4 ≤ W.heap.size
def OfI (l : List FX) (A : Option Addr) (c : Nat) (s : ByteArray) (w : World) (gm : Nat) (k : Nat) (W : World) : Prop :=
  OfB l A c s w gm W ∧ ∃ K, SetAt W gm (k * 300000000) K ∧ Hid (risingB K) ∧ Hid (ofT (flsX l) s.data.toList = ofStep (flsX l) (dirL s.data.toList) (baseL s.data.toList) ((ups (dirL s.data.toList)).drop k) K)
def OfX (l : List FX) (A : Option Addr) (c : Nat) (s : ByteArray) (w : World) (gm : Nat) (co : Code) (_k : Nat) (W : World) : Prop :=
  (co = .ret ∧ ∃ E : Int, Hid (ofT (flsX l) s.data.toList = (E, [])) ∧ Boxed W (w.heap.size + 2) 39 (.slice none 0 0) ∧ Boxed W (w.heap.size + 3) 27 (.int .i64 E) ∧ Below w.heap.size w W) ∨
  (co = .exit 0 ∧ OfB l A c s w gm W ∧ ∃ K n, n ≤ 100000000000 ∧ SetAt W gm n K ∧ Hid (risingB K) ∧ Hid (ofT (flsX l) s.data.toList = (0, K)))
theorem own_keep {X Y : World} {B : Nat} {row : Option Nat} (hg : X.grownBy Y row) (hr : ∀ r, row = some r → NoT r ∨ (B ≤ r ∧ ∃ o : Obj, X.heap[r]? = some o ∧ o.isCells = false)) {j : Nat} {o : Obj} (hj : X.heap[j]? = some o) (hlt : j < B) : Y.heap[j]? = some o := (hg.block j (Array.getElem?_eq_some_iff.1 hj).1 (fun e => by
  rcases hr j e.symm with h | ⟨h, _⟩
  · exact h
  · omega)).trans hj
theorem ofB_own {l : List FX} {A : Option Addr} {c : Nat} {s : ByteArray} {w : World} {gm B : Nat} (hB : B = gm + 4) (hz : w.heap.size + 4 ≤ gm) {X Y : World} {row : Option Nat} (h : OfB l A c s w gm X) (hg : X.grownBy Y row) (hr : ∀ r, row = some r → NoT r ∨ (B ≤ r ∧ ∃ o : Obj, X.heap[r]? = some o ∧ o.isCells = false)) : OfB l A c s w gm Y := by
  obtain ⟨h0, h1, h2, h3, h6, h7, hb, hz9⟩ := h
  refine ⟨own_keep hg hr h0 (by omega), own_keep hg hr h1 (by omega), own_keep hg hr h2 (by omega), own_keep hg hr h3 (by omega), own_keep hg hr h6 (by omega), own_keep hg hr h7 (by omega), hb.grown hg hb.size (fun r e => ?_), Nat.le_trans hz9 hg.size⟩
  rcases hr r e with h | ⟨h, _⟩
  · exact h.elim
  · omega
theorem setAt_own {gm B n : Nat} {K : List Bs} (hB : B = gm + 4) {X Y : World} {row : Option Nat} (h : SetAt X gm n K) (hg : X.grownBy Y row) (hr : ∀ r, row = some r → NoT r ∨ (B ≤ r ∧ ∃ o : Obj, X.heap[r]? = some o ∧ o.isCells = false)) : SetAt Y gm n K := h.kept hg (fun e => by
  rcases hr gm e with h | ⟨h, _⟩
  · exact h
  · omega)
theorem ofI_own {l : List FX} {A : Option Addr} {c : Nat} {s : ByteArray} {w : World} {gm B : Nat} (hB : B = gm + 4) (hz : w.heap.size + 4 ≤ gm) : OwnTo NoT B (fun k W => OfI l A c s w gm k W) := by
  rintro k X Y row ⟨h1, K, h2, h3, h4⟩ hg hr
  exact ⟨ofB_own hB hz h1 hg hr, K, setAt_own hB h2 hg hr, h3, h4⟩
theorem ofX_own {l : List FX} {A : Option Addr} {c : Nat} {s : ByteArray} {w : World} {gm B : Nat} {co : Code} (hB : B = gm + 4) (hz : w.heap.size + 4 ≤ gm) : OwnTo NoT B (fun k W => OfX l A c s w gm co k W) := by
  rintro k X Y row h hg hr
  rcases h with ⟨h0, E, h1, h2, h3, h4⟩ | ⟨h0, h1, K, n, h2, h3, h4, h5⟩
  · refine .inl ⟨h0, E, h1, own_keep hg hr h2 (by omega), own_keep hg hr h3 (by omega), h4.grown hg h4.size (fun r e => ?_)⟩
    rcases hr r e with h | ⟨h, _⟩
    · exact h.elim
    · omega
  · exact .inr ⟨h0, ofB_own hB hz h1 hg hr, K, n, h2, setAt_own hB h3 hg hr, h4, h5⟩
theorem keepsFrom_map {W W' : World} {B gm : Nat} (hg : W.grownBy W' (some gm)) (hlt : gm < B) : KeepsFrom B W W' := ⟨hg.size, fun j o hj ho _ => (hg.block j (Array.getElem?_eq_some_iff.1 ho).1 (fun e => by simp at e; omega)).trans ho⟩
theorem keepsU_map {W W' : World} {gm : Nat} (hg : W.grownBy W' (some gm)) : KeepsB (KeepU (gm + 3)) W W' := ⟨hg.size, fun j hj hl => hg.block j hl (fun e => by unfold KeepU at hj; simp at e; omega)⟩
theorem OfB.keepC {l : List FX} {A : Option Addr} {c : Nat} {s : ByteArray} {w : World} {gm : Nat} {W W' : World} (h : OfB l A c s w gm W) (hz : w.heap.size + 4 ≤ gm) (hk : KeepC W W') (hg : W.grownBy W' (some gm)) : OfB l A c s w gm W' := by
  obtain ⟨h0, h1, h2, h3, h6, h7, hb, hz9⟩ := h
  exact ⟨hk.box h0, hk.box h1, hk.box h2, hk.box h3, hk.box h6, hk.box h7, hb.grown hg hb.size (fun r e => by simp at e; omega), Nat.le_trans hz9 hg.size⟩
theorem ofStep_cons (t : List Fl) (home base d : Bs) (ds K : List Bs) : ofStep t home base (d :: ds) K = if (atT t d).1 = 0 then (if (atT t d).2.1 = true then (0, gatherS K (atT t d).2.2 (askB home base d)) else ofStep t home base ds (gatherS K (atT t d).2.2 (askB home base d))) else ((atT t d).1, []) := by
  conv => lhs; unfold ofStep
theorem boxed_new_kept {W W' : World} {B b : Nat} {t : TypeId} {v : Value} {row : Option Nat} (h : Boxed W b t v) (hg : W.grownBy W' row) (hr : ∀ r, row = some r → B ≤ r ∧ ∃ o : Obj, W.heap[r]? = some o ∧ o.isCells = false) : Boxed W' b t v := (hg.block b (Array.getElem?_eq_some_iff.1 (show W.heap[b]? = some _ from h)).1 (fun e => by
  obtain ⟨_, o, ho, hc⟩ := hr b e.symm
  rw [show W.heap[b]? = _ from h] at ho; cases ho; cases hc)).trans h

set_option maxRecDepth 100000 in
set_option maxHeartbeats 16000000 in
theorem of_any (l : List FX) (A : Option Addr) (c : Nat) (s : ByteArray) (w : World) (h : TreeAt w A c l) (hsm : SmallX l) (hs : s.size ≤ 1000000) (hr : rightB s.data.toList = true) (hm : MaxOk w) (hT : TabsOk w) :
    Calls Tryz.prog 22 #[.slice A l.length c, .string s] w (TextsPost (ofT (flsX l) s.data.toList) w) := by
  have HH := Lib.hid h
  have HSM := Lib.hid hsm
  clear h hsm
  have hb0 : Below w.heap.size w ((((w.alloc (.cells #[.slice A l.length c] 37)).alloc (.cells #[.string s] 9)).alloc (.cells #[.slice none 0 0] 39)).alloc (.cells #[.int .i64 0] 27)) := ((((Below.refl _ w).alloc (Nat.le_refl _) _).alloc (by simp) _).alloc (by simp; omega) _).alloc (by simp; omega) _
  have HR := Lib.hid (right_any s _ (by unfold maxLen; omega) (hm.below hb0))
  have HR1 := Lib.hid hr
  have HB0 := Lib.hid hb0
  clear hr hb0
  refine (callsIn_wide (n := 3)).1 ?_
  generalize 3 = n
  refine callsIn_of_wp_marks Tryz.func22 rfl trivial ?_ rfl
  simp only [Tryz.ntmps22, List.size_toArray, List.length_cons, List.length_nil, Nat.reduceAdd, Nat.reduceSub, Array.replicate_succ, Array.replicate_zero, List.push_toArray, List.append_toArray, List.nil_append, List.cons_append]
  gi_wp2_with fail
  refine wpIn_scope_wide ?_
  gi_wp2_with fail
  obtain ⟨W0, hW0⟩ : ∃ W, ((((w.alloc (.cells #[.slice A l.length c] 37)).alloc (.cells #[.string s] 9)).alloc (.cells #[.slice none 0 0] 39)).alloc (.cells #[.int .i64 0] 27)) = W := ⟨_, rfl⟩
  have hB0 := HB0.out
  have hR := HR.out
  rw [hW0] at hB0 hR
  have hz0 : W0.heap.size = w.heap.size + 4 := by rw [← hW0]; simp
  have y0 : Boxed W0 w.heap.size 37 (.slice A l.length c) := by rw [← hW0]; exact (((Boxed.new w _ _).alloc _).alloc _).alloc _
  have y1 : Boxed W0 (w.heap.size + 1) 9 (.string s) := by
    rw [← hW0]; have := Boxed.new (w.alloc (.cells #[.slice A l.length c] 37)) 9 (.string s); rw [World.size_alloc] at this; exact (this.alloc _).alloc _
  have y2 : Boxed W0 (w.heap.size + 2) 39 (.slice none 0 0) := by
    rw [← hW0]; have := Boxed.new ((w.alloc (.cells #[.slice A l.length c] 37)).alloc (.cells #[.string s] 9)) 39 (.slice none 0 0); simp only [World.size_alloc] at this; exact this.alloc _
  have y3 : Boxed W0 (w.heap.size + 3) 27 (.int .i64 0) := by
    rw [← hW0]; have := Boxed.new (((w.alloc (.cells #[.slice A l.length c] 37)).alloc (.cells #[.string s] 9)).alloc (.cells #[.slice none 0 0] 39)) 27 (.int .i64 0); simp only [World.size_alloc] at this; exact this
  clear HR HB0
  rw [hW0]
  clear hW0
  refine wide_call hR ?_
  rintro e w1 ⟨rfl, hb1⟩
  rw [HR1.out]
  have hb1w := hB0.trans (hb1.mono hB0.size)
  have y0 : Boxed w1 w.heap.size 37 (.slice A l.length c) := (hb1.block _ (by omega)).trans y0
  have y1 : Boxed w1 (w.heap.size + 1) 9 (.string s) := (hb1.block _ (by omega)).trans y1
  have y2 : Boxed w1 (w.heap.size + 2) 39 (.slice none 0 0) := (hb1.block _ (by omega)).trans y2
  have y3 : Boxed w1 (w.heap.size + 3) 27 (.int .i64 0) := (hb1.block _ (by omega)).trans y3
  have hz1 : w.heap.size + 4 ≤ w1.heap.size := by have := hb1.size; omega
  clear hb1 hz0 hB0 hR
  have HP := Lib.hid (pdir_any s)
  have HU := Lib.hid (upFrom_any (mkB (dirL s.data.toList)))
  have hmm := run_makeMap (P := Tryz.prog) 89 w1
  have hbm : Below w1.heap.size w1 ((w1.alloc (.map #[] 0)).alloc (.cells #[.map (some w1.heap.size)] 89)) := ((Below.refl _ w1).alloc (Nat.le_refl _) _).alloc (by simp) _
  have c1 := (show Boxed ((w1.alloc (.map #[] 0)).alloc (.cells #[.map (some w1.heap.size)] 89)) (w.heap.size + 1) 9 (.string s) from (hbm.block _ (by omega)).trans y1).cell
  clear hbm
  have lt1 := y1.lt
  gi_wp2_with fail
  refine wide_call (HP.out _ hs) ?_
  rintro e w2 ⟨rfl, hw2⟩
  subst hw2
  obtain ⟨W2, hW2⟩ : ∃ W, (w1.alloc (.map #[] 0)).alloc (.cells #[.map (some w1.heap.size)] 89) = W := ⟨_, rfl⟩
  have hz2 : W2.heap.size = w1.heap.size + 2 := by rw [← hW2]; simp
  have hb2 : Below w1.heap.size w1 W2 := by rw [← hW2]; exact ((Below.refl _ w1).alloc (Nat.le_refl _) _).alloc (by simp) _
  have hs2 : SetAt W2 w1.heap.size 0 [] := by
    rw [← hW2]
    have h1 : SetAt (w1.alloc (.map #[] 0)) w1.heap.size 0 [] := ⟨0, .map [], World.ownsMap_made _ _ _ _, Nat.le_refl _, fun s => by rw [Maps.has_eq]; simp⟩
    exact h1.below ((Below.refl _ _).alloc (Nat.le_refl _) _)
  have y6 : Boxed W2 (w1.heap.size + 1) 89 (.map (some w1.heap.size)) := by
    rw [← hW2]; have := Boxed.new (w1.alloc (.map #[] 0)) 89 (.map (some w1.heap.size)); rw [World.size_alloc] at this; exact this
  rw [hW2]
  clear hW2 hmm c1 lt1
  gi_wp2_with fail
  have hb3 : Below w1.heap.size w1 (W2.alloc (.cells #[.string (mkB (dirL s.data.toList))] 9)) := hb2.alloc hb2.size _
  have y7 := Boxed.new W2 9 (.string (mkB (dirL s.data.toList)))
  have y6 := y6.alloc (.cells #[.string (mkB (dirL s.data.toList))] 9)
  have hs3 := hs2.below ((Below.refl _ W2).alloc (Nat.le_refl _) (.cells #[.string (mkB (dirL s.data.toList))] 9))
  obtain ⟨W3, hW3⟩ : ∃ W, W2.alloc (.cells #[.string (mkB (dirL s.data.toList))] 9) = W := ⟨_, rfl⟩
  have hz3 : W3.heap.size = w1.heap.size + 3 := by rw [← hW3]; simp [hz2]
  rw [hz2] at y7
  rw [hW3] at hb3 y7 y6 hs3 ⊢
  have y0 : Boxed W3 w.heap.size 37 (.slice A l.length c) := (hb3.block _ (by omega)).trans y0
  have y1 : Boxed W3 (w.heap.size + 1) 9 (.string s) := (hb3.block _ (by omega)).trans y1
  have y2 : Boxed W3 (w.heap.size + 2) 39 (.slice none 0 0) := (hb3.block _ (by omega)).trans y2
  have y3 : Boxed W3 (w.heap.size + 3) 27 (.int .i64 0) := (hb3.block _ (by omega)).trans y3
  have hb3w := hb1w.trans (hb3.mono hb1w.size)
  clear hW3 hb2 hs2 hb3 hb1w hz2
  obtain ⟨gm, hgm⟩ : ∃ g, w1.heap.size = g := ⟨_, rfl⟩
  rw [hgm] at hz1 hz3 y6 y7 hs3 ⊢
  clear hgm
  refine wpIn_label ?_
  have c7 := y7.cell
  gi_wp2_with fail
  refine wide_call (HU.out _) ?_
  rintro e w2 ⟨rfl, rfl⟩
  clear c7
  gi_wp2_with fail
  have hz4 : (W3.alloc (.cells #[.string (mkB (dirL s.data.toList))] 9)).heap.size = gm + 4 := by simp [hz3]
  have hb4 : Below W3.heap.size W3 (W3.alloc (.cells #[.string (mkB (dirL s.data.toList))] 9)) := (Below.refl _ _).alloc (Nat.le_refl _) _
  have yd := Boxed.new W3 9 (.string (mkB (dirL s.data.toList)))
  rw [hz3] at yd
  have hb4w := hb3w.trans (hb4.mono hb3w.size)
  have hs4 := hs3.below hb4
  have y0 : Boxed _ w.heap.size 37 (.slice A l.length c) := (hb4.block _ (by omega)).trans y0
  have y1 : Boxed _ (w.heap.size + 1) 9 (.string s) := (hb4.block _ (by omega)).trans y1
  have y2 : Boxed _ (w.heap.size + 2) 39 (.slice none 0 0) := (hb4.block _ (by omega)).trans y2
  have y3 : Boxed _ (w.heap.size + 3) 27 (.int .i64 0) := (hb4.block _ (by omega)).trans y3
  have y6 : Boxed _ (gm + 1) 89 (.map (some gm)) := (hb4.block _ (by omega)).trans y6
  have y7 : Boxed _ (gm + 2) 9 (.string (mkB (dirL s.data.toList))) := (hb4.block _ (by omega)).trans y7
  generalize W3.alloc (.cells #[.string (mkB (dirL s.data.toList))] 9) = W4 at *
  clear hb4 hs3 hb3w hz3
  have hdir : (mkB (dirL s.data.toList)).size ≤ 1000000 := dir_small s hs
  have hs100 : s.size ≤ 100 := partsB_len HR1.out
  have hul : (upsB (mkB (dirL s.data.toList))).length ≤ 102 := by
    unfold upsB
    rw [List.length_map, mkB_data]
    have h1 := ups_len _ (dirL s.data.toList) (Nat.le_refl _)
    have h2 : (mkB (dirL s.data.toList)).size ≤ s.size := by
      by_cases e : s.data.toList = []
      · rw [e, mkB_size]; simp [dirL]
      · exact Nat.le_of_lt (dir_less s e)
    rw [mkB_size] at h2
    omega
  have hinit : ofT (flsX l) s.data.toList = ofStep (flsX l) (dirL s.data.toList) (baseL s.data.toList) ((ups (dirL s.data.toList)).drop 0) [] := by unfold ofT; rw [HR1.out, if_pos rfl]; rfl
  refine wpIn_rangeList rfl (fun h => absurd h (by decide)) (gf := 88) (lb := #[.pointer (some ⟨gm + 3, 0, none⟩)]) rfl trivial (enters_of Tryz.func88 (by kernel_rfl) rfl)
    (ups_list _ (gm + 3) (mkB (dirL s.data.toList)) hdir W4 yd) KeepsB.trans (keepsB_b (by rintro k rfl; omega)) (by rintro r hr; exact absurd hr id) (Below.refl _ _) (fun _ => rfl)
    (fun k W => OfI l A c s w gm k W) (fun co k W => OfX l A c s w gm co k W)
    (ofI_own hz4 hz1) (fun co => ofX_own hz4 hz1)
    ⟨⟨y0, y1, y2, y3, y6, y7, hb4w, by omega⟩, [], by rw [Nat.zero_mul]; exact hs4, List.Pairwise.nil, hinit⟩
    (fun x a' W => ∃ b8, Boxed W b8 9 (.string x) ∧ gm + 4 ≤ b8 ∧ a' = { tmps := #[.slice A l.length c, .string s, .pointer (some ⟨w.heap.size, 0, none⟩), .pointer (some ⟨w.heap.size + 1, 0, none⟩), .pointer (some ⟨w.heap.size + 1 + 1, 0, none⟩), .pointer (some ⟨w.heap.size + 1 + 1 + 1, 0, none⟩), .pointer (some ⟨gm + 1, 0, none⟩), .pointer (some ⟨gm + 2, 0, none⟩), .pointer (some ⟨b8, 0, none⟩), undef, undef, .string s, .bool true, .bool false, .map (some gm), .string s, .string (mkB (dirL s.data.toList)), .string (mkB (dirL s.data.toList)), .func (.func 88) #[] #[.pointer (some ⟨gm + 3, 0, none⟩)], .string x, undef, undef, undef, undef, undef, undef, undef, undef, undef, undef, undef, undef, undef, undef, undef, undef, undef, undef, undef], defers := [] })
    (fun x a' _ X Y row hs hg hr => by
      obtain ⟨b8, h1, h2, h3⟩ := hs
      exact ⟨b8, boxed_new_kept h1 hg hr, h2, h3⟩) ?assign ?body ?done ?stop
  case assign =>
    intro lp k x W K hi hK
    have hlen : gm + 4 ≤ W.heap.size := hi.1.2.2.2.2.2.2.2
    gi_wp2_with fail
    have hbw : Below W.heap.size W (W.alloc (.cells #[.string x] 9)) := (Below.refl _ _).alloc (Nat.le_refl _) _
    refine hK _ _ ((KeepsOthers.of_below hbw).from _) ⟨hbw.size, fun j _ hj => hbw.block j hj⟩ (ofI_own hz4 hz1 k _ _ none hi ⟨hbw.os, hbw.tape, hbw.output, hbw.size, fun i hi _ => hbw.block i hi⟩ (fun r e => by cases e)) ⟨W.heap.size, Boxed.new W _ _, hlen, rfl⟩
  case body =>
    rintro lp k x a' W hl ⟨rl, hrl⟩ ⟨⟨z0, z1, z2, z3, z6, z7, zB, zz⟩, K, hset, hris, hof⟩ ⟨b8, z8, hb8, rfl⟩ hx
    clear hrl
    have hkl : k < (upsB (mkB (dirL s.data.toList))).length := (List.getElem?_eq_some_iff.1 hx).1
    obtain ⟨d, hdx, hdrop⟩ : ∃ d, x = mkB d ∧ (ups (dirL s.data.toList)).drop k = d :: (ups (dirL s.data.toList)).drop (k + 1) := by
      unfold upsB at hx hkl
      rw [mkB_data] at hx hkl
      rw [List.length_map] at hkl
      rw [List.getElem?_map, List.getElem?_eq_getElem hkl] at hx
      simp only [Option.map_some, Option.some.injEq] at hx
      exact ⟨_, hx.symm, (List.getElem_cons_drop hkl).symm⟩
    subst hdx
    have hdm : d.length ≤ 1000000 := by
      have hmem : d ∈ ups (dirL s.data.toList) := List.mem_of_mem_drop (by rw [hdrop]; simp)
      have h1 := ups_small _ (dirL s.data.toList) (Nat.le_refl _) d hmem
      rw [mkB_size] at hdir; omega
    have hnx := hof.out
    rw [hdrop, ofStep_cons] at hnx
    have hTW := HH.out.below (zB.mono (Nat.le_refl _))
    have hmW := hm.below zB
    have htW := hT.below (Nat.le_refl _) zB
    have hat := at_any l A c (mkB d) W hTW HSM.out (by rw [mkB_size]; exact hdm) hmW htW
    have hatok := atT_ok (flsX l) d
    rw [mkB_data] at hat
    have HAT := Lib.hid hat
    have HNX := Lib.hid hnx
    have HX := Lib.hid hx
    have c0 := z0.cell
    have c8 := z8.cell
    have Z0 := Lib.hid z0
    have Z1 := Lib.hid z1
    have Z2 := Lib.hid z2
    have Z3 := Lib.hid z3
    have Z6 := Lib.hid z6
    have Z7 := Lib.hid z7
    have Z8 := Lib.hid z8
    have HSET := Lib.hid hset
    clear hx hof hnx hat z0 z1 z2 z3 z6 z7 z8 hset hdrop
    gi_wp2_with fail
    refine wide_call_in HAT.out ?_
    rintro e w4 ⟨v, rfl, hov, hb4⟩
    obtain ⟨A4, c4, L4, rfl, hL4, he4⟩ := ow_agg hov
    obtain ⟨E, hE⟩ : ∃ E, (atT (flsX l) d).1 = E := ⟨_, rfl⟩
    obtain ⟨np, hnp⟩ : ∃ np, (atT (flsX l) d).2.1 = np := ⟨_, rfl⟩
    obtain ⟨ls, hls⟩ : ∃ ls, (atT (flsX l) d).2.2 = ls := ⟨_, rfl⟩
    have hnx := HNX.out
    rw [hE, hnp, hls] at hnx
    rw [hls] at he4 hatok
    rw [hE, hnp]
    have HNX := Lib.hid hnx
    clear hnx hE hnp hls hov HAT c0 c8
    have HL4 := Lib.hid hL4
    have hb5 : Below w4.heap.size w4 (w4.alloc (.cells #[.bool np, .slice A4 L4.length c4] 24)) := (Below.refl _ _).alloc (Nat.le_refl _) _
    have hb45 := hb4.trans (hb5.mono hb4.size)
    have hkc := KeepC.of_below hb45
    have hB5 : Below w.heap.size w (w4.alloc (.cells #[.bool np, .slice A4 L4.length c4] 24)) := zB.trans (hb45.mono zB.size)
    have v0 := hkc.box Z0.out
    have v1 := hkc.box Z1.out
    have v2 := hkc.box Z2.out
    have v3 := hkc.box Z3.out
    have v6 := hkc.box Z6.out
    have v7 := hkc.box Z7.out
    have v8 := hkc.box Z8.out
    have hs5 := HSET.out.below hb45
    have hL5 := (KeepC.of_below hb5).lines hL4
    have hn5 := heap_alloc_new w4 (.cells #[.bool np, .slice A4 L4.length c4] 24)
    have hz5 : gm + 4 ≤ (w4.alloc (.cells #[.bool np, .slice A4 L4.length c4] 24)).heap.size := Nat.le_trans zz hb45.size
    have hg5 : W.grownBy (w4.alloc (.cells #[.bool np, .slice A4 L4.length c4] 24)) (some gm) := grown_below _ hb45
    have HE4 := Lib.hid he4
    have HOK := Lib.hid hatok
    cases hq : (E != 0) with
    | true =>
      have hE0 : E ≠ 0 := by simpa using hq
      have hfin : ofT (flsX l) s.data.toList = (E, []) := by rw [HNX.out, if_neg hE0]
      have HF := Lib.hid hfin
      have q2 := v2.cell
      have q3 := v3.cell
      have r2 := v2.frozen
      have r3 := v3.frozen
      have HV2 := Lib.hid v2
      have HV3 := Lib.hid v3
      have HB5 := Lib.hid hB5
      have HB45 := Lib.hid hb45
      clear hE0 hfin v0 v1 v2 v3 v6 v7 v8 hs5 hL5 hn5 hg5 hkc hB5 hb45 hb5 hb4 hL4 he4 hatok
      gi_wp2_with fail
      refine ⟨(((KeepsOthers.of_below HB45.out).trans (KeepsOthers.setCell _ _ _)).trans (KeepsOthers.setCell _ _ _)).from _, .inl ⟨rfl, E, HF.out, ?_, ?_, ?_⟩⟩
      · exact (HV2.out.set _).other (by omega) _
      · exact (HV3.out.other (by omega) _).set _
      · exact (HB5.out.setCell (p := ⟨w.heap.size + 1 + 1, 0, none⟩) (by show w.heap.size ≤ w.heap.size + 1 + 1; omega) _).setCell (p := ⟨w.heap.size + 1 + 1 + 1, 0, none⟩) (by show w.heap.size ≤ w.heap.size + 1 + 1 + 1; omega) _
    | false =>
      have hE0 : E = 0 := by simpa using hq
      subst hE0
      have hnx := HNX.out
      rw [if_pos rfl] at hnx
      have hLlen : L4.length ≤ 16385 := by have := congrArg List.length he4; rw [lnsX_length] at this; omega
      have hokx : ∀ x ∈ L4, okLn 16384 x.ln := fun x hx => hatok.1 _ (by rw [← he4]; exact List.mem_map.2 ⟨x, hx, rfl⟩)
      have hG := gather_any gm (k * 300000000) b8 (gm + 2) (w.heap.size + 1) K np A4 c4 L4 (mkB d) (mkB (dirL s.data.toList)) s _ hL5 hokx hLlen (by omega) hs5 v8 v7 v1 hs (hm.below hB5)
      rw [he4, mkB_data, mkB_data] at hG
      unfold owV at hG
      have HG := Lib.hid hG
      have HNX2 := Lib.hid hnx
      have q6 := v6.cell
      have HV0 := Lib.hid v0
      have HV1 := Lib.hid v1
      have HV2 := Lib.hid v2
      have HV3 := Lib.hid v3
      have HV6 := Lib.hid v6
      have HV7 := Lib.hid v7
      have HB5 := Lib.hid hB5
      have HG5 := Lib.hid hg5
      have HN5 := Lib.hid hn5
      have HS5 := Lib.hid hs5
      clear hG hnx v0 v1 v2 v3 v6 v7 v8 hs5 hL5 hn5 hg5 hkc hB5 hb45 hb5 hb4 hL4 he4 hatok hokx HNX
      gi_wp2_with fail
      refine wide_call_in HG.out ?_
      rintro e w6 ⟨rfl, hs6, hg6⟩
      have hmp := HS5.out.map
      have hk6 := KeepC.of_grown hg6 hmp
      have hn6 := hk6.same _ _ HN5.out rfl
      have c9 : w6.cell? ⟨w4.heap.size, 0, none⟩ = some (.bool np) := cell_of_row _ _ 0 _ _ _ hn6
      have hB6 : OfB l A c s w gm w6 := OfB.keepC ⟨HV0.out, HV1.out, HV2.out, HV3.out, HV6.out, HV7.out, HB5.out, hz5⟩ hz1 hk6 hg6
      have hg6W : W.grownBy w6 (some gm) := grown_trans HG5.out hg6
      have hris6 : risingB (gatherS K ls (askB (dirL s.data.toList) (baseL s.data.toList) d)) := gatherS_rising _ _ _ hris.out
      have hkk : k * 300000000 + L4.length * 16385 ≤ (k + 1) * 300000000 := by omega
      have hs7 := hs6.more hkk
      have HS7 := Lib.hid hs7
      have HB6 := Lib.hid hB6
      have HG6 := Lib.hid hg6W
      have HR6 := Lib.hid hris6
      clear hs6 hg6 hk6 hn6 hB6 hg6W hris6 hs7 hmp
      cases hnpq : np with
      | true =>
        rw [hnpq] at c9
        have hn2 := HNX2.out
        rw [hnpq, if_pos rfl] at hn2
        have HN2 := Lib.hid hn2
        clear hn2 hnpq HNX2
        gi_wp2_with fail
        exact ⟨keepsFrom_map HG6.out (by omega), .inr ⟨rfl, HB6.out, _, _, by omega, HS7.out, HR6.out, HN2.out⟩⟩
      | false =>
        rw [hnpq] at c9
        have hn2 := HNX2.out
        rw [hnpq, if_neg (by simp)] at hn2
        have HN2 := Lib.hid hn2
        clear hn2 hnpq HNX2
        gi_wp2_with fail
        exact ⟨keepsFrom_map HG6.out (by omega), keepsU_map HG6.out, HB6.out, _, HS7.out, HR6.out, HN2.out⟩
  case done =>
    rintro D W hD ⟨⟨z0, z1, z2, z3, z6, z7, zB, zz⟩, K, hset, hris, hof⟩ hK
    have hfin : ofT (flsX l) s.data.toList = (0, K) := by
      have h1 := hof.out
      have h2 : (ups (dirL s.data.toList)).length = (upsB (mkB (dirL s.data.toList))).length := by unfold upsB; rw [List.length_map, mkB_data]
      rw [List.drop_eq_nil_of_le (by omega)] at h1
      exact h1
    have hkb : (upsB (mkB (dirL s.data.toList))).length * 300000000 ≤ 100000000000 := by omega
    have HK := Lib.hid hK
    have HF := Lib.hid hfin
    clear hK hof hfin hinit
    obtain ⟨kk, DD, hown, hkn, hhas⟩ := hset
    have hsz : Maps.size DD ≤ 100000000000 := Nat.le_trans (size_of hown) (by omega)
    have HKEYS := Lib.hid (callsIn_wide.1 (Tryz.maps_Keys_62 (some gm) W))
    have HSORT := Lib.hid (callsIn_wide.1 (Tryz.slices_Sorted_keys_61_62 gm kk DD unitElem W hown (by unfold maxLen; omega) (by omega)))
    have HOWN := Lib.hid hown
    have HHAS := Lib.hid hhas
    have Z2 := Lib.hid z2
    have Z3 := Lib.hid z3
    have c6 := z6.cell
    clear hown hhas hsz z0 z1 z2 z3 z6 z7
    gi_wp2_with fail
    refine wide_call HKEYS.out ?_
    rintro e w' ⟨rfl, rfl⟩
    gi_wp2_with fail
    refine wide_call HSORT.out ?_
    rintro e w5 ⟨v, ss, rfl, hperm, hrow, hnil, hb5⟩
    have hms := sorted_rising HOWN.out HHAS.out hris.out hperm
    have hlen : ss.length = K.length := by rw [← hms, List.length_mergeSort]
    rw [show ss.mergeSort (fun x y => decide (x ≤ y)) = K from hms] at hrow
    obtain ⟨A5, c5, rfl, hst, hcap, hcapm⟩ := strsT_own (l := K) hrow hlen
    have hbW : Below W.heap.size W w5 := ((Below.refl _ W).alloc (Nat.le_refl _) _).trans (hb5.mono (by simp))
    have hDl : D < W.heap.size := (Array.getElem?_eq_some_iff.1 HK.out).1
    have hbase : W.heap.size < (W.alloc (.cells #[.map (some gm)] 89)).heap.size := by simp
    have v2 : Boxed w5 (w.heap.size + 2) 39 (.slice none 0 0) := (hbW.block _ (by omega)).trans Z2.out
    have v3 : Boxed w5 (w.heap.size + 3) 27 (.int .i64 0) := (hbW.block _ (by omega)).trans Z3.out
    have p2 := v2.cell
    have p3 := v3.cell
    have r2 := v2.frozen
    have r3 := v3.frozen
    have hKD := (hbW.block D hDl).trans HK.out
    have hBw := zB.trans (hbW.mono zB.size)
    have HST := Lib.hid hst
    have HV2 := Lib.hid v2
    have HV3 := Lib.hid v3
    have HKD := Lib.hid hKD
    have HBW := Lib.hid hBw
    have HCM := Lib.hid hcapm
    skip
    clear hms hlen hrow hst v2 v3 hKD hBw hnil hb5 hperm hcapm
    gi_wp2_with fail
    rw [Exit.noGoto_ret]
    have dK := ((KeepsOthers.setCell w5 ⟨w.heap.size + 1 + 1, 0, none⟩ (.slice A5 K.length c5)).trans (KeepsOthers.setCell _ ⟨w.heap.size + 1 + 1 + 1, 0, none⟩ (.int .i64 0))).same D _ HKD.out rfl
    have w2 : Boxed ((w5.setCell ⟨w.heap.size + 1 + 1, 0, none⟩ (.slice A5 K.length c5)).setCell ⟨w.heap.size + 1 + 1 + 1, 0, none⟩ (.int .i64 0)) (w.heap.size + 2) 39 (.slice A5 K.length c5) := (HV2.out.set _).other (by omega) _
    have w3 : Boxed ((w5.setCell ⟨w.heap.size + 1 + 1, 0, none⟩ (.slice A5 K.length c5)).setCell ⟨w.heap.size + 1 + 1 + 1, 0, none⟩ (.int .i64 0)) (w.heap.size + 3) 27 (.int .i64 0) := (HV3.out.other (by omega) _).set _
    have wB := (HBW.out.setCell (p := ⟨w.heap.size + 1 + 1, 0, none⟩) (by show w.heap.size ≤ w.heap.size + 1 + 1; omega) (.slice A5 K.length c5)).setCell (p := ⟨w.heap.size + 1 + 1 + 1, 0, none⟩) (by show w.heap.size ≤ w.heap.size + 1 + 1 + 1; omega) (.int .i64 0)
    have wS : StrsT (W.alloc (.cells #[.map (some gm)] 89)).heap.size ((w5.setCell ⟨w.heap.size + 1 + 1, 0, none⟩ (.slice A5 K.length c5)).setCell ⟨w.heap.size + 1 + 1 + 1, 0, none⟩ (.int .i64 0)) A5 K := HST.out.keep fun g cur hg _ => (heap_setCell_other _ ⟨w.heap.size + 1 + 1 + 1, 0, none⟩ g _ (by show g ≠ w.heap.size + 1 + 1 + 1; omega)).trans (heap_setCell_other _ ⟨w.heap.size + 1 + 1, 0, none⟩ g _ (by show g ≠ w.heap.size + 1 + 1; omega))
    generalize (w5.setCell ⟨w.heap.size + 1 + 1, 0, none⟩ (.slice A5 K.length c5)).setCell ⟨w.heap.size + 1 + 1 + 1, 0, none⟩ (.int .i64 0) = V at *
    have hD2 : D ≠ w.heap.size + 2 := by omega
    have hD3 : D ≠ w.heap.size + 3 := by omega
    have e2 : Boxed (V.putObj D (.deferred none)) (w.heap.size + 2) 39 (.slice A5 K.length c5) := (World.putObj_heap_other hD2.symm).trans w2
    have e3 : Boxed (V.putObj D (.deferred none)) (w.heap.size + 3) 27 (.int .i64 0) := (World.putObj_heap_other hD3.symm).trans w3
    have c5' := e2.cell
    have c6' := e3.cell
    refine ⟨by simp, .inl ⟨_, _, rfl, run_takeDeferred dK, ?_⟩⟩
    refine ⟨.tuple #[.slice A5 K.length c5, .int .i64 0], by simp [results, Tryz.f22, go_sem, c5', c6'], ?_⟩
    have hft := HF.out
    show TextsPost _ w _ _
    rw [hft]
    refine ⟨A5, c5, rfl, (StrsT.keep wS fun g cur hg _ => World.putObj_heap_other (fun e => by omega)).at_, hcap, HCM.out, wB.trans (belowK_b (w := w) (Nat.le_refl _) V D _ (.deferred none) (by omega) dK rfl rfl)⟩
  case stop =>
    rintro D co k W hD hk hx hK
    rcases hx with ⟨rfl, E, hof, z2, z3, zB⟩ | ⟨rfl, ⟨z0, z1, z2, z3, z6, z7, zB, zz⟩, K, n0, hn0, hset, hris, hof⟩
    · have HK := Lib.hid hK
      have HF := Lib.hid hof.out
      have hDl : D < W.heap.size := (Array.getElem?_eq_some_iff.1 hK).1
      have hD2 : D ≠ w.heap.size + 2 := by omega
      have hD3 : D ≠ w.heap.size + 3 := by omega
      have Z2 := Lib.hid z2
      have Z3 := Lib.hid z3
      clear hK hof hinit z2 z3
      gi_wp2_with fail
      rw [Exit.noGoto_ret]
      have e2 : Boxed (W.putObj D (.deferred none)) (w.heap.size + 2) 39 (.slice none 0 0) := (World.putObj_heap_other hD2.symm).trans Z2.out
      have e3 : Boxed (W.putObj D (.deferred none)) (w.heap.size + 3) 27 (.int .i64 E) := (World.putObj_heap_other hD3.symm).trans Z3.out
      have c5' := e2.cell
      have c6' := e3.cell
      refine ⟨by simp, .inl ⟨_, _, rfl, run_takeDeferred HK.out, ?_⟩⟩
      refine ⟨.tuple #[.slice none 0 0, .int .i64 E], by simp [results, Tryz.f22, go_sem, c5', c6'], ?_⟩
      show TextsPost _ w _ _
      rw [HF.out]
      exact ⟨none, 0, rfl, StrsAt.nil _ _, Nat.zero_le _, Nat.zero_le _, zB.trans (belowK_b (w := w) (Nat.le_refl _) W D _ (.deferred none) (by omega) HK.out rfl rfl)⟩
    · have HK := Lib.hid hK
      have HF := Lib.hid hof.out
      clear hK hof hinit
      obtain ⟨kk, DD, hown, hkn, hhas⟩ := hset
      have hsz : Maps.size DD ≤ 100000000000 := Nat.le_trans (size_of hown) (by omega)
      have HKEYS := Lib.hid (callsIn_wide.1 (Tryz.maps_Keys_62 (some gm) W))
      have HSORT := Lib.hid (callsIn_wide.1 (Tryz.slices_Sorted_keys_61_62 gm kk DD unitElem W hown (by unfold maxLen; omega) (by omega)))
      have HOWN := Lib.hid hown
      have HHAS := Lib.hid hhas
      have Z2 := Lib.hid z2
      have Z3 := Lib.hid z3
      have c6 := z6.cell
      clear hown hhas hsz z0 z1 z2 z3 z6 z7
      gi_wp2_with fail
      refine wide_call HKEYS.out ?_
      rintro e w' ⟨rfl, rfl⟩
      gi_wp2_with fail
      refine wide_call HSORT.out ?_
      rintro e w5 ⟨v, ss, rfl, hperm, hrow, hnil, hb5⟩
      have hms := sorted_rising HOWN.out HHAS.out hris.out hperm
      have hlen : ss.length = K.length := by rw [← hms, List.length_mergeSort]
      rw [show ss.mergeSort (fun x y => decide (x ≤ y)) = K from hms] at hrow
      obtain ⟨A5, c5, rfl, hst, hcap, hcapm⟩ := strsT_own (l := K) hrow hlen
      have hbW : Below W.heap.size W w5 := ((Below.refl _ W).alloc (Nat.le_refl _) _).trans (hb5.mono (by simp))
      have hDl : D < W.heap.size := (Array.getElem?_eq_some_iff.1 HK.out).1
      have hbase : W.heap.size < (W.alloc (.cells #[.map (some gm)] 89)).heap.size := by simp
      have v2 : Boxed w5 (w.heap.size + 2) 39 (.slice none 0 0) := (hbW.block _ (by omega)).trans Z2.out
      have v3 : Boxed w5 (w.heap.size + 3) 27 (.int .i64 0) := (hbW.block _ (by omega)).trans Z3.out
      have p2 := v2.cell
      have p3 := v3.cell
      have r2 := v2.frozen
      have r3 := v3.frozen
      have hKD := (hbW.block D hDl).trans HK.out
      have hBw := zB.trans (hbW.mono zB.size)
      have HST := Lib.hid hst
      have HV2 := Lib.hid v2
      have HV3 := Lib.hid v3
      have HKD := Lib.hid hKD
      have HBW := Lib.hid hBw
      have HCM := Lib.hid hcapm
      skip
      clear hms hlen hrow hst v2 v3 hKD hBw hnil hb5 hperm hcapm
      gi_wp2_with fail
      rw [Exit.noGoto_ret]
      have dK := ((KeepsOthers.setCell w5 ⟨w.heap.size + 1 + 1, 0, none⟩ (.slice A5 K.length c5)).trans (KeepsOthers.setCell _ ⟨w.heap.size + 1 + 1 + 1, 0, none⟩ (.int .i64 0))).same D _ HKD.out rfl
      have w2 : Boxed ((w5.setCell ⟨w.heap.size + 1 + 1, 0, none⟩ (.slice A5 K.length c5)).setCell ⟨w.heap.size + 1 + 1 + 1, 0, none⟩ (.int .i64 0)) (w.heap.size + 2) 39 (.slice A5 K.length c5) := (HV2.out.set _).other (by omega) _
      have w3 : Boxed ((w5.setCell ⟨w.heap.size + 1 + 1, 0, none⟩ (.slice A5 K.length c5)).setCell ⟨w.heap.size + 1 + 1 + 1, 0, none⟩ (.int .i64 0)) (w.heap.size + 3) 27 (.int .i64 0) := (HV3.out.other (by omega) _).set _
      have wB := (HBW.out.setCell (p := ⟨w.heap.size + 1 + 1, 0, none⟩) (by show w.heap.size ≤ w.heap.size + 1 + 1; omega) (.slice A5 K.length c5)).setCell (p := ⟨w.heap.size + 1 + 1 + 1, 0, none⟩) (by show w.heap.size ≤ w.heap.size + 1 + 1 + 1; omega) (.int .i64 0)
      have wS : StrsT (W.alloc (.cells #[.map (some gm)] 89)).heap.size ((w5.setCell ⟨w.heap.size + 1 + 1, 0, none⟩ (.slice A5 K.length c5)).setCell ⟨w.heap.size + 1 + 1 + 1, 0, none⟩ (.int .i64 0)) A5 K := HST.out.keep fun g cur hg _ => (heap_setCell_other _ ⟨w.heap.size + 1 + 1 + 1, 0, none⟩ g _ (by show g ≠ w.heap.size + 1 + 1 + 1; omega)).trans (heap_setCell_other _ ⟨w.heap.size + 1 + 1, 0, none⟩ g _ (by show g ≠ w.heap.size + 1 + 1; omega))
      generalize (w5.setCell ⟨w.heap.size + 1 + 1, 0, none⟩ (.slice A5 K.length c5)).setCell ⟨w.heap.size + 1 + 1 + 1, 0, none⟩ (.int .i64 0) = V at *
      have hD2 : D ≠ w.heap.size + 2 := by omega
      have hD3 : D ≠ w.heap.size + 3 := by omega
      have e2 : Boxed (V.putObj D (.deferred none)) (w.heap.size + 2) 39 (.slice A5 K.length c5) := (World.putObj_heap_other hD2.symm).trans w2
      have e3 : Boxed (V.putObj D (.deferred none)) (w.heap.size + 3) 27 (.int .i64 0) := (World.putObj_heap_other hD3.symm).trans w3
      have c5' := e2.cell
      have c6' := e3.cell
      refine ⟨by simp, .inl ⟨_, _, rfl, run_takeDeferred dK, ?_⟩⟩
      refine ⟨.tuple #[.slice A5 K.length c5, .int .i64 0], by simp [results, Tryz.f22, go_sem, c5', c6'], ?_⟩
      have hft := HF.out
      show TextsPost _ w _ _
      rw [hft]
      refine ⟨A5, c5, rfl, (StrsT.keep wS fun g cur hg _ => World.putObj_heap_other (fun e => by omega)).at_, hcap, HCM.out, wB.trans (belowK_b (w := w) (Nat.le_refl _) V D _ (.deferred none) (by omega) dK rfl rfl)⟩
end Go.Proofs.YtkihgbggndikpaaGreatDoor
namespace Go.Proofs.YtkihgbggndikpaaGreatDoor
open Go Go.RowKit Go.Shelf Go.Proofs
attribute [local go_sem] Oper.semAt_some

theorem take_eq_all {α : Type} {l m : List α} {k : Nat} (h : ∀ j, j < k → l[j]? = m[j]?) (hl : l.length = k) (hm : m.length = k) : l = m := by
  apply List.ext_getElem? 
  intro j
  by_cases e : j < k
  · exact h j e
  · rw [List.getElem?_eq_none (by omega), List.getElem?_eq_none (by omega)]

set_option maxRecDepth 100000 in
set_option maxHeartbeats 4000000 in
theorem sametexts_any (l m : List Bs) (A B : Option Addr) (c d : Nat) (w : World) (ha : StrsAt w A l) (hb : StrsAt w B m) (_hl : l.length ≤ 9000000000000) (hm : m.length ≤ 9000000000000) :
    Calls Tryz.prog 24 #[.slice A l.length c, .slice B m.length d] w (BoolPost (decide (l = m)) w) := by
  have HA := Lib.hid ha; clear ha
  have HB := Lib.hid hb; clear hb
  by_cases hlm : l.length = m.length
  · obtain ⟨n, hn⟩ : ∃ n, m.length = n := ⟨_, rfl⟩
    have hln : l.length = n := by omega
    rw [hln, hn]
    rw [hn] at hm
    have HN := Lib.hid hn
    have HLN := Lib.hid hln
    have g1 : ((n : Int) != (n : Int)) = false := by simp
    clear hlm hn hln _hl
    go_enter Tryz.func24, Tryz.ntmps24
    go_wp2_with fail
    clear g1
    go_loopw [5] (fun i wr => ∃ (k : Nat), k ≤ n ∧ i = .int .i64 k ∧ Hid (∀ j, j < k → l[j]? = m[j]?) ∧ Below w.heap.size w wr) (fun i _ => n - (intOf i).toNat)
    case atStart => exact ⟨0, Nat.zero_le _, rfl, fun j hj => absurd hj (Nat.not_lt_zero _), Below.refl _ _⟩
    case round =>
      obtain ⟨k, hk, rfl, hsame, hbr⟩ := hrel
      by_cases h1 : k < n
      · have hlk : k < l.length := by have := HLN.out; omega
        have hmk : k < m.length := by have := HN.out; omega
        obtain ⟨x, hx⟩ : ∃ x, l[k]? = some x := ⟨_, List.getElem?_eq_getElem hlk⟩
        obtain ⟨y, hy⟩ : ∃ y, m[k]? = some y := ⟨_, List.getElem?_eq_getElem hmk⟩
        obtain ⟨g, o, hA, hr⟩ := (HA.out.below hbr) (by omega)
        subst hA
        obtain ⟨g', o', hB, hr'⟩ := (HB.out.below hbr) (by omega)
        subst hB
        have c1 := hr k x hx
        have c2 := hr' k y hy
        have k1 : (k : Int) < (n : Int) := by omega
        have wk : IntKind.i64.wrap (k : Int) = (k : Int) := IntWalk.i64_in _ (by omega)
        have HX := Lib.hid hx
        have HY := Lib.hid hy
        have HS := Lib.hid hsame
        clear hr hr' hx hy hlk hmk hsame
        cases hxy : ((mkB x).toList == (mkB y).toList) with
        | true =>
          have hexy : x = y := by rw [beq_iff_eq, ByteArray.toList_eq, ByteArray.toList_eq, mkB_data, mkB_data] at hxy; exact hxy
          have HE := Lib.hid hexy
          clear hexy
          go_wp2_with fail
          go_region
          go_wp2_with fail
          go_roundw
          case rel =>
            refine ⟨k + 1, by omega, by go_num, fun j hj => ?_, hbr.drew⟩
            by_cases e : j = k
            · subst e; exact HX.out.trans (by rw [HE.out]; exact HY.out.symm)
            · exact HS.out j (by omega)
          case measure => simp [intOf]; omega
        | false =>
          have hne : l ≠ m := fun e => by
            have h1 := HX.out
            rw [e, HY.out] at h1
            simp only [Option.some.injEq] at h1
            rw [h1] at hxy; simp at hxy
          have HE := Lib.hid hne
          clear hne
          go_wp2_with fail
          go_region
          go_wp2_with fail
          go_ret
          exact ⟨ret_bool (decide_eq_false HE.out).symm, hbr.drew⟩
      · obtain rfl : k = n := by omega
        have he : l = m := take_eq_all hsame.out HLN.out HN.out
        have HE := Lib.hid he
        clear he hsame
        go_wp2_with fail
        go_ret
        exact ⟨ret_bool (decide_eq_true HE.out).symm, hbr⟩
  · have g1 : ((l.length : Int) != (m.length : Int)) = true := by simp; omega
    have g2 : ((l.length : Int) = (m.length : Int)) = False := by rw [eq_iff_iff]; constructor <;> (intro h; first | omega | exact h.elim)
    have hne : l ≠ m := fun e => hlm (by rw [e])
    have HE := Lib.hid hne
    clear hne hlm
    go_enter Tryz.func24, Tryz.ntmps24
    go_wp2_with fail
    go_ret
    exact ⟨ret_bool (decide_eq_false HE.out).symm, Below.refl _ _⟩

set_option maxRecDepth 100000 in
set_option maxHeartbeats 4000000 in
theorem of_wrong (A : Option Addr) (n c : Nat) (t : List Fl) (s : ByteArray) (w : World) (hs : s.size ≤ maxLen) (hr : rightB s.data.toList = false) (hm : MaxOk w) :
    Calls Tryz.prog 22 #[.slice A n c, .string s] w (TextsPost (ofT t s.data.toList) w) := by
  have hof : ofT t s.data.toList = (4, []) := by unfold ofT; rw [hr]; rfl
  rw [hof]
  have hb0 : Below w.heap.size w ((((w.alloc (.cells #[.slice A n c] 37)).alloc (.cells #[.string s] 9)).alloc (.cells #[.slice none 0 0] 39)).alloc (.cells #[.int .i64 0] 27)) := ((((Below.refl _ w).alloc (Nat.le_refl _) _).alloc (by simp) _).alloc (by simp; omega) _).alloc (by simp; omega) _
  have HR := Lib.hid (right_any s _ hs (hm.below hb0))
  have HR1 := Lib.hid hr
  have HB0 := Lib.hid hb0
  clear hr hb0 hof
  refine (callsIn_wide (n := 3)).1 ?_
  generalize 3 = nn
  refine callsIn_of_wp_marks Tryz.func22 rfl trivial ?_ rfl
  simp only [Tryz.ntmps22, List.size_toArray, List.length_cons, List.length_nil, Nat.reduceAdd, Nat.reduceSub, Array.replicate_succ, Array.replicate_zero, List.push_toArray, List.append_toArray, List.nil_append, List.cons_append]
  gi_wp2_with fail
  refine wpIn_scope_wide ?_
  gi_wp2_with fail
  refine wide_call HR.out ?_
  rintro e w1 ⟨rfl, hb1⟩
  rw [HR1.out]
  have y2 : Boxed ((((w.alloc (.cells #[.slice A n c] 37)).alloc (.cells #[.string s] 9)).alloc (.cells #[.slice none 0 0] 39)).alloc (.cells #[.int .i64 0] 27)) (w.heap.size + 2) 39 (.slice none 0 0) := by
    have := Boxed.new ((w.alloc (.cells #[.slice A n c] 37)).alloc (.cells #[.string s] 9)) 39 (.slice none 0 0); simp only [World.size_alloc] at this; exact this.alloc _
  have y3 : Boxed ((((w.alloc (.cells #[.slice A n c] 37)).alloc (.cells #[.string s] 9)).alloc (.cells #[.slice none 0 0] 39)).alloc (.cells #[.int .i64 0] 27)) (w.heap.size + 3) 27 (.int .i64 0) := by
    have := Boxed.new (((w.alloc (.cells #[.slice A n c] 37)).alloc (.cells #[.string s] 9)).alloc (.cells #[.slice none 0 0] 39)) 27 (.int .i64 0); simp only [World.size_alloc] at this; exact this
  have z2 : Boxed w1 (w.heap.size + 2) 39 (.slice none 0 0) := (hb1.block _ y2.lt).trans y2
  have z3 : Boxed w1 (w.heap.size + 3) 27 (.int .i64 0) := (hb1.block _ y3.lt).trans y3
  have p2 := z2.cell
  have p3 := z3.cell
  have f2 := z2.frozen
  have f3 := z3.frozen
  have hBw := HB0.out.trans (hb1.mono HB0.out.size)
  have Z2 := Lib.hid z2
  have Z3 := Lib.hid z3
  have HBW := Lib.hid hBw
  clear hb1 y2 y3 z2 z3 hBw HB0 HR
  gi_wp2_with fail
  rw [Exit.noGoto_ret]
  have w2 : Boxed ((w1.setCell ⟨w.heap.size + 1 + 1, 0, none⟩ (.slice none 0 0)).setCell ⟨w.heap.size + 1 + 1 + 1, 0, none⟩ (.int .i64 4)) (w.heap.size + 2) 39 (.slice none 0 0) := (Z2.out.set _).other (by omega) _
  have w3 : Boxed ((w1.setCell ⟨w.heap.size + 1 + 1, 0, none⟩ (.slice none 0 0)).setCell ⟨w.heap.size + 1 + 1 + 1, 0, none⟩ (.int .i64 4)) (w.heap.size + 3) 27 (.int .i64 4) := (Z3.out.other (by omega) _).set _
  have c5 := w2.cell
  have c6 := w3.cell
  refine ⟨.tuple #[.slice none 0 0, .int .i64 4], by simp [results, Tryz.f22, go_sem, c5, c6], ?_⟩
  exact ⟨none, 0, rfl, StrsAt.nil _ _, Nat.zero_le _, Nat.zero_le _, (HBW.out.setCell (p := ⟨w.heap.size + 1 + 1, 0, none⟩) (by show w.heap.size ≤ w.heap.size + 1 + 1; omega) _).setCell (p := ⟨w.heap.size + 1 + 1 + 1, 0, none⟩) (by show w.heap.size ≤ w.heap.size + 1 + 1 + 1; omega) _⟩
theorem of_all (l : List FX) (A : Option Addr) (c : Nat) (s : ByteArray) (w : World) (h : TreeAt w A c l) (hsm : SmallX l) (hs : s.size ≤ 1000000) (hm : MaxOk w) (hT : TabsOk w) :
    Calls Tryz.prog 22 #[.slice A l.length c, .string s] w (TextsPost (ofT (flsX l) s.data.toList) w) := by
  cases hr : rightB s.data.toList with
  | true => exact of_any l A c s w h hsm hs hr hm hT
  | false => exact of_wrong A l.length c (flsX l) s w (by unfold maxLen; omega) hr hm
end Go.Proofs.YtkihgbggndikpaaGreatDoor
namespace Go.Proofs.YtkihgbggndikpaaGreatDoor
open Go Go.RowKit Go.Shelf Go.Proofs
attribute [local go_sem] Oper.semAt_some

def kT : List Fl := [(ownW, [97, 10]), ([100, 47, 79, 87, 78, 69, 82, 83], [112, 101, 114, 45, 102, 105, 108, 101, 32, 42, 46, 103, 111, 32, 98, 32, 35, 32, 99]), ([100, 47, 120, 46, 103, 111], [])]
theorem known_parse : (parseV [115, 101, 116, 32, 112, 97, 114, 101, 110, 116]).1 = 11 := by decide +kernel
theorem known_match : matchB [42, 46, 103, 111] [120, 46, 103, 111] = true := by
  have h1 : globB [42, 46, 103, 111] = true := by decide +kernel
  have h2 : rightB [120, 46, 103, 111] = true := by decide +kernel
  have h3 : splitL 47 [42, 46, 103, 111] = [[42, 46, 103, 111]] := by decide +kernel
  have h4 : splitL 47 [120, 46, 103, 111] = [[120, 46, 103, 111]] := by decide +kernel
  unfold matchB
  rw [h1, h2, h3, h4]
  simp [partedB_cons, partedB_stop, partedB_nil, fitsB]
theorem known_of : ofT kT [100, 47, 120, 46, 103, 111] = (0, [[97], [98]]) := by
  have h0 : rightB [100, 47, 120, 46, 103, 111] = true := by decide +kernel
  have h1 : dirL [100, 47, 120, 46, 103, 111] = [100] := by decide +kernel
  have h2 : baseL [100, 47, 120, 46, 103, 111] = [120, 46, 103, 111] := by decide +kernel
  have h3 : ups [100] = [[100], []] := by decide +kernel
  have h4 : atT kT [100] = (0, (false, [([42, 46, 103, 111], [[98]])])) := by decide +kernel
  have h5 : atT kT [] = (0, (false, [([], [[97]])])) := by decide +kernel
  have h6 : askB [100] [120, 46, 103, 111] [100] [42, 46, 103, 111] = true := by unfold askB; rw [known_match]; rfl
  unfold ofT
  rw [h0, h1, h2, h3, if_pos rfl, ofStep_cons, h4]
  simp only [if_true, Bool.false_eq_true, if_false]
  rw [ofStep_cons, h5]
  simp only [if_true, Bool.false_eq_true, if_false]
  unfold ofStep gatherS
  simp only [List.foldl_cons, List.foldl_nil, h6, List.isEmpty_cons, List.isEmpty_nil, Bool.or_true, Bool.true_or, if_true]
  decide +kernel
def kF (g : Nat) : List FX := [⟨⟨#[79, 87, 78, 69, 82, 83]⟩, some ⟨g, 0, none⟩, 2, [97, 10]⟩, ⟨⟨#[100, 47, 79, 87, 78, 69, 82, 83]⟩, some ⟨g + 1, 0, none⟩, 19, [112, 101, 114, 45, 102, 105, 108, 101, 32, 42, 46, 103, 111, 32, 98, 32, 35, 32, 99]⟩, ⟨⟨#[100, 47, 120, 46, 103, 111]⟩, none, 0, []⟩]
theorem kF_small (g : Nat) : SmallX (kF g) := ⟨by show (3 : Nat) ≤ 100000; decide, fun x hx => by
  simp only [kF, List.mem_cons, List.mem_nil_iff, or_false] at hx
  rcases hx with rfl | rfl | rfl
  · exact ⟨by show (6 : Nat) ≤ 1000000; decide, by show (2 : Nat) ≤ 1000000; decide⟩
  · exact ⟨by show (8 : Nat) ≤ 1000000; decide, by show (19 : Nat) ≤ 1000000; decide⟩
  · exact ⟨by show (6 : Nat) ≤ 1000000; decide, by show (0 : Nat) ≤ 1000000; decide⟩⟩
theorem kF_fls (g : Nat) : flsX (kF g) = kT := rfl
theorem bytes_block {W : World} {g : Nat} {b : Bs} {t : TypeId} {fr : Nat × Nat} (h : W.heap[g]? = some (.cells (b.map fun x => Value.int .u8 (x.toNat : Int)).toArray t fr)) : BytesAt W (some ⟨g, 0, none⟩) b := fun _ => by
  refine ⟨g, 0, rfl, fun i hi => ?_⟩
  rw [Nat.zero_add, cell_of_row W g i _ _ _ h]
  simp [numsB, List.getD_eq_getElem?_getD, List.getElem?_eq_getElem hi]
theorem kF_tree {w W : World} (hW : ((w.alloc (.cells #[.int .u8 97, .int .u8 10] 5 (2, 3))).alloc (.cells #[.int .u8 112, .int .u8 101, .int .u8 114, .int .u8 45, .int .u8 102, .int .u8 105, .int .u8 108, .int .u8 101, .int .u8 32, .int .u8 42, .int .u8 46, .int .u8 103, .int .u8 111, .int .u8 32, .int .u8 98, .int .u8 32, .int .u8 35, .int .u8 32, .int .u8 99] 5 (19, 20))).alloc (.cells #[.string ⟨#[79, 87, 78, 69, 82, 83]⟩, .slice (some ⟨w.heap.size, 0, none⟩) 2 2, .string ⟨#[100, 47, 79, 87, 78, 69, 82, 83]⟩, .slice (some ⟨w.heap.size + 1, 0, none⟩) 19 19, .string ⟨#[100, 47, 120, 46, 103, 111]⟩, .slice none 0 0] 52) = W) : TreeAt W (some ⟨w.heap.size + 2, 0, none⟩) 3 (kF w.heap.size) ∧ Below w.heap.size w W := by
  obtain ⟨X, hX⟩ : ∃ X, w.alloc (.cells #[.int .u8 97, .int .u8 10] 5 (2, 3)) = X := ⟨_, rfl⟩
  have h0 := heap_alloc_new w (.cells #[.int .u8 97, .int .u8 10] 5 (2, 3))
  rw [hX] at h0
  have hz : X.heap.size = w.heap.size + 1 := by rw [← hX]; simp
  have hb0 : Below w.heap.size w X := by rw [← hX]; exact (Below.refl _ _).alloc (Nat.le_refl _) _
  rw [hX] at hW
  obtain ⟨Y, hY⟩ : ∃ Y, X.alloc (.cells #[.int .u8 112, .int .u8 101, .int .u8 114, .int .u8 45, .int .u8 102, .int .u8 105, .int .u8 108, .int .u8 101, .int .u8 32, .int .u8 42, .int .u8 46, .int .u8 103, .int .u8 111, .int .u8 32, .int .u8 98, .int .u8 32, .int .u8 35, .int .u8 32, .int .u8 99] 5 (19, 20)) = Y := ⟨_, rfl⟩
  have h1 := heap_alloc_new X (.cells #[.int .u8 112, .int .u8 101, .int .u8 114, .int .u8 45, .int .u8 102, .int .u8 105, .int .u8 108, .int .u8 101, .int .u8 32, .int .u8 42, .int .u8 46, .int .u8 103, .int .u8 111, .int .u8 32, .int .u8 98, .int .u8 32, .int .u8 35, .int .u8 32, .int .u8 99] 5 (19, 20))
  rw [hY] at h1
  have hz1 : Y.heap.size = w.heap.size + 2 := by rw [← hY]; simp [hz]
  have hb1 : Below X.heap.size X Y := by rw [← hY]; exact (Below.refl _ _).alloc (Nat.le_refl _) _
  rw [hY] at hW
  rw [hz] at h1
  have h2 := heap_alloc_new Y (.cells #[.string ⟨#[79, 87, 78, 69, 82, 83]⟩, .slice (some ⟨w.heap.size, 0, none⟩) 2 2, .string ⟨#[100, 47, 79, 87, 78, 69, 82, 83]⟩, .slice (some ⟨w.heap.size + 1, 0, none⟩) 19 19, .string ⟨#[100, 47, 120, 46, 103, 111]⟩, .slice none 0 0] 52)
  rw [hW] at h2
  have hb2 : Below Y.heap.size Y W := by rw [← hW]; exact (Below.refl _ _).alloc (Nat.le_refl _) _
  rw [hz1] at h2
  have k0 := (hb2.block w.heap.size (by omega)).trans ((hb1.block w.heap.size (by omega)).trans h0)
  have k1 := (hb2.block (w.heap.size + 1) (by omega)).trans h1
  refine ⟨⟨Nat.le_refl _, by decide, fun _ => ⟨_, 0, rfl, fun i x hx => ?_⟩, fun x hx => ?_⟩, (hb0.trans (hb1.mono hb0.size)).trans (hb2.mono (Nat.le_trans hb0.size hb1.size))⟩
  · match i, hx with
    | 0, hx => cases hx; exact ⟨cell_of_row _ _ 0 _ _ _ h2, cell_of_row _ _ 1 _ _ _ h2⟩
    | 1, hx => cases hx; exact ⟨cell_of_row _ _ 2 _ _ _ h2, cell_of_row _ _ 3 _ _ _ h2⟩
    | 2, hx => cases hx; exact ⟨cell_of_row _ _ 4 _ _ _ h2, cell_of_row _ _ 5 _ _ _ h2⟩
    | i + 3, hx => simp [kF] at hx
  · simp only [kF, List.mem_cons, List.mem_nil_iff, or_false] at hx
    rcases hx with rfl | rfl | rfl
    · exact bytes_block k0
    · exact bytes_block k1
    · exact BytesAt.nil _ _
set_option maxRecDepth 100000 in
set_option maxHeartbeats 4000000 in
theorem oknown_any (w : World) (hm : MaxOk w) (hT : TabsOk w) : Calls Tryz.prog 12 #[] w (BoolPost true w) := by
  have kc := fun (w : World) (C : Array Value) (n c : Nat) => Lib.run_convert_bytes_const (P := Tryz.prog) w 50 5 C n c Tryz.underlying50 Tryz.underlying5
  have kc2 := kc (w.alloc (.cells #[.int .u8 97, .int .u8 10] 5 (2, 3))) #[.int .u8 112, .int .u8 101, .int .u8 114, .int .u8 45, .int .u8 102, .int .u8 105, .int .u8 108, .int .u8 101, .int .u8 32, .int .u8 42, .int .u8 46, .int .u8 103, .int .u8 111, .int .u8 32, .int .u8 98, .int .u8 32, .int .u8 35, .int .u8 32, .int .u8 99] 19 19
  simp only [World.size_alloc] at kc2
  have HM := Lib.hid hm
  have HT := Lib.hid hT
  clear hm hT
  go_enter Tryz.func12, Tryz.ntmps12
  go_wp2_with fail
  obtain ⟨W, hW⟩ : ∃ W, ((w.alloc (.cells #[.int .u8 97, .int .u8 10] 5 (2, 3))).alloc (.cells #[.int .u8 112, .int .u8 101, .int .u8 114, .int .u8 45, .int .u8 102, .int .u8 105, .int .u8 108, .int .u8 101, .int .u8 32, .int .u8 42, .int .u8 46, .int .u8 103, .int .u8 111, .int .u8 32, .int .u8 98, .int .u8 32, .int .u8 35, .int .u8 32, .int .u8 99] 5 (19, 20))).alloc (.cells #[.string ⟨#[79, 87, 78, 69, 82, 83]⟩, .slice (some ⟨w.heap.size, 0, none⟩) 2 2, .string ⟨#[100, 47, 79, 87, 78, 69, 82, 83]⟩, .slice (some ⟨w.heap.size + 1, 0, none⟩) 19 19, .string ⟨#[100, 47, 120, 46, 103, 111]⟩, .slice none 0 0] 52) = W := ⟨_, rfl⟩
  obtain ⟨hTr, hbW⟩ := kF_tree hW
  rw [hW]
  clear hW kc kc2
  have hmW := HM.out.below hbW
  have hTW := HT.out.below (Nat.le_refl _) hbW
  have hof := of_all (kF w.heap.size) _ 3 ⟨#[100, 47, 120, 46, 103, 111]⟩ W hTr (kF_small _) (by decide) hmW hTW
  rw [kF_fls, show ofT kT (ByteArray.mk #[100, 47, 120, 46, 103, 111]).data.toList = (0, [[97], [98]]) from known_of] at hof
  refine hof.mono ?_
  rintro e w1 ⟨A1, c1, rfl, hs1, hc1, hcm1, hb1⟩
  have hB1 := hbW.trans (hb1.mono hbW.size)
  have hm1 := hmW.below hb1
  have hT1 := hTW.below (Nat.le_refl _) hb1
  have HP := Lib.hid (parse_any ⟨#[115, 101, 116, 32, 112, 97, 114, 101, 110, 116]⟩ w1 (by decide) hm1 hT1)
  have HS1 := Lib.hid hs1
  have HB1 := Lib.hid hB1
  clear hof hs1 hb1 hB1 hTr hbW hmW hTW
  go_wp2_with fail
  refine HP.out.mono ?_
  rintro e w2 ⟨v, rfl, hov, hb2⟩
  rw [show (parseV (ByteArray.mk #[115, 101, 116, 32, 112, 97, 114, 101, 110, 116]).data.toList).1 = 11 from known_parse]
  obtain ⟨A2, c2, l2, rfl, _, _⟩ := ow_agg hov
  have hB2 := HB1.out.trans (hb2.mono HB1.out.size)
  have hs2 := HS1.out.below hb2
  have HS2 := Lib.hid hs2
  have HB2 := Lib.hid hB2
  clear hov hs2 hB2 hb2
  obtain ⟨q, hq⟩ : ∃ q, (parseV (ByteArray.mk #[115, 101, 116, 32, 112, 97, 114, 101, 110, 116]).data.toList).2.1 = q := ⟨_, rfl⟩
  rw [hq]
  clear hq
  go_wp2_with fail
  have hb3 : Below w2.heap.size w2 ((w2.alloc (.cells #[.bool q, .slice A2 l2.length c2] 24)).alloc (.cells #[.string ⟨#[97]⟩, .string ⟨#[98]⟩] 9)) := ((Below.refl _ _).alloc (Nat.le_refl _) _).alloc (by simp) _
  have hn3 := heap_alloc_new (w2.alloc (.cells #[.bool q, .slice A2 l2.length c2] 24)) (.cells #[.string ⟨#[97]⟩, .string ⟨#[98]⟩] 9)
  rw [World.size_alloc] at hn3
  have hnew : StrsAt ((w2.alloc (.cells #[.bool q, .slice A2 l2.length c2] 24)).alloc (.cells #[.string ⟨#[97]⟩, .string ⟨#[98]⟩] 9)) (some ⟨w2.heap.size + 1, 0, none⟩) [[97], [98]] := fun _ => ⟨_, 0, rfl, fun i p hp => by
    match i, hp with
    | 0, hp => cases hp; exact cell_of_row _ _ 0 _ _ _ hn3
    | 1, hp => cases hp; exact cell_of_row _ _ 1 _ _ _ hn3
    | i + 2, hp => simp at hp⟩
  have HS := Lib.hid (sametexts_any [[97], [98]] [[97], [98]] A1 _ c1 2 _ (HS2.out.below hb3) hnew (by decide) (by decide))
  have HB3 := Lib.hid (HB2.out.trans (hb3.mono HB2.out.size))
  clear hb3 hn3 hnew
  refine HS.out.mono ?_
  rintro e w3 ⟨rfl, hb4⟩
  go_wp2_with fail
  go_ret
  exact ⟨rfl, HB3.out.trans (hb4.mono HB3.out.size)⟩
end Go.Proofs.YtkihgbggndikpaaGreatDoor
namespace Go.Proofs.YtkihgbggndikpaaGreatDoor
open Go Go.RowKit Go.Shelf Go.Proofs
attribute [local go_sem] Oper.semAt_some

def lineV (x : LX) : Value := .agg #[.string x.g, .slice x.A x.ns.length x.c]
theorem ln_eq (x y : LX) : (x.ln = y.ln) ↔ (x.g = y.g ∧ x.ns = y.ns) := by
  unfold LX.ln
  rw [Prod.mk.injEq]
  constructor
  · rintro ⟨h, h2⟩; exact ⟨by rw [← data_mkB x.g, ← data_mkB y.g, h], h2⟩
  · rintro ⟨h, h2⟩; exact ⟨by rw [h], h2⟩
set_option maxRecDepth 100000 in
set_option maxHeartbeats 2000000 in
theorem sameline_any (x y : LX) (w : World) (hx : StrsAt w x.A x.ns) (hy : StrsAt w y.A y.ns) (lx : x.ns.length ≤ maxLen) (ly : y.ns.length ≤ maxLen) :
    Calls Tryz.prog 52 #[lineV x, lineV y] w (BoolPost (decide (x.ln = y.ln)) w) := by
  obtain ⟨xg, xA, xc, xns⟩ := x
  obtain ⟨yg, yA, yc, yns⟩ := y
  have hb : Below w.heap.size w ((w.alloc (.cells #[.string xg, .slice xA xns.length xc] 62)).alloc (.cells #[.string yg, .slice yA yns.length yc] 62)) := ((Below.refl _ w).alloc (Nat.le_refl _) _).alloc (by simp) _
  have HE := Lib.hid (eqtexts_any xA yA xc yc xns yns _ (hx.below hb) (hy.below hb) lx ly)
  have HB := Lib.hid hb
  have he := ln_eq ⟨xg, xA, xc, xns⟩ ⟨yg, yA, yc, yns⟩
  simp only at he
  unfold lineV
  simp only
  clear hb hx hy lx ly
  cases hg : (xg.toList == yg.toList) with
  | true =>
    have hge : xg = yg := by
      rw [beq_iff_eq, ByteArray.toList_eq, ByteArray.toList_eq] at hg
      rw [← data_mkB xg, hg, data_mkB]
    have HR : Hid (decide ((⟨xg, xA, xc, xns⟩ : LX).ln = (⟨yg, yA, yc, yns⟩ : LX).ln) = decide (xns = yns)) := by
      unfold Hid; rw [Bool.eq_iff_iff, decide_eq_true_iff, decide_eq_true_iff, he]; exact ⟨fun h => h.2, fun h => ⟨hge, h⟩⟩
    clear hge he
    go_enter Tryz.func52, Tryz.ntmps52
    go_wp2_with fail
    refine HE.out.mono ?_
    rintro e w' ⟨rfl, q, rfl⟩
    go_wp2_with fail
    go_ret
    exact ⟨ret_bool HR.out.symm, belowQ HB.out q⟩
  | false =>
    have HR : Hid (decide ((⟨xg, xA, xc, xns⟩ : LX).ln = (⟨yg, yA, yc, yns⟩ : LX).ln) = false) := by
      unfold Hid; rw [decide_eq_false_iff_not, he]; rintro ⟨rfl, _⟩; simp at hg
    clear he HE
    go_enter Tryz.func52, Tryz.ntmps52
    go_wp2_with fail
    go_ret
    exact ⟨ret_bool HR.out.symm, HB.out⟩

set_option maxRecDepth 100000 in
set_option maxHeartbeats 4000000 in
theorem samelines_any (l m : List LX) (A B : Option Addr) (c d : Nat) (w : World) (ha : LinesAt w A c l) (hb : LinesAt w B d m) :
    Calls Tryz.prog 51 #[.slice A l.length c, .slice B m.length d, .func (.func 52) #[] #[]] w (BoolPost (decide (lnsX l = lnsX m)) w) := by
  have eg := enters_of (P := Tryz.prog) Tryz.func52 (by kernel_rfl) rfl
  have EG := Lib.hid eg; clear eg
  have hl : l.length ≤ maxLen := Nat.le_trans ha.cap ha.capm
  have hm : m.length ≤ maxLen := Nat.le_trans hb.cap hb.capm
  unfold maxLen at hl hm
  have HA := Lib.hid ha; clear ha
  have HB := Lib.hid hb; clear hb
  by_cases hlm : l.length = m.length
  · obtain ⟨n, hn⟩ : ∃ n, m.length = n := ⟨_, rfl⟩
    have hln : l.length = n := by omega
    rw [hln, hn]
    rw [hn] at hm
    have HN := Lib.hid hn
    have HLN := Lib.hid hln
    have g1 : ((n : Int) != (n : Int)) = false := by simp
    clear hlm hn hln hl
    go_enter Tryz.func51, Tryz.ntmps51
    go_wp2_with fail
    clear g1
    go_loopw [17] (fun i wr => ∃ (k : Nat), k ≤ n ∧ i = .int .i64 k ∧ Hid (∀ j, j < k → (lnsX l)[j]? = (lnsX m)[j]?) ∧ Below w.heap.size w wr) (fun i _ => n - (intOf i).toNat)
    case atStart => exact ⟨0, Nat.zero_le _, rfl, fun j hj => absurd hj (Nat.not_lt_zero _), Below.refl _ _⟩
    case round =>
      obtain ⟨k, hk, rfl, hsame, hbr⟩ := hrel
      by_cases h1 : k < n
      · have hlk : k < l.length := by have := HLN.out; omega
        have hmk : k < m.length := by have := HN.out; omega
        obtain ⟨x, hx⟩ : ∃ x, l[k]? = some x := ⟨_, List.getElem?_eq_getElem hlk⟩
        obtain ⟨y, hy⟩ : ∃ y, m[k]? = some y := ⟨_, List.getElem?_eq_getElem hmk⟩
        have hLx := HA.out.below hbr
        have hLy := HB.out.below hbr
        obtain ⟨g, o, hA, hr⟩ := hLx.row (by omega)
        subst hA
        obtain ⟨g', o', hB, hr'⟩ := hLy.row (by omega)
        subst hB
        have hox := hLx.own x (List.mem_of_getElem? hx)
        have hoy := hLy.own y (List.mem_of_getElem? hy)
        have HX : Hid ((lnsX l)[k]? = some x.ln) := by unfold Hid; rw [lnsX_getElem?, hx]; rfl
        have HY : Hid ((lnsX m)[k]? = some y.ln) := by unfold Hid; rw [lnsX_getElem?, hy]; rfl
        obtain ⟨c1, c2⟩ := hr k x hx
        have hb0 : Below wr.heap.size wr (wr.alloc (.cells #[.string x.g, .slice x.A x.ns.length x.c] 62)) := (Below.refl _ wr).alloc (Nat.le_refl _) _
        obtain ⟨c3, c4⟩ := (hr'.below hb0) k y hy
        have hb2 : Below wr.heap.size wr ((wr.alloc (.cells #[.string x.g, .slice x.A x.ns.length x.c] 62)).alloc (.cells #[.string y.g, .slice y.A y.ns.length y.c] 62)) := ((Below.refl _ wr).alloc (Nat.le_refl _) _).alloc (by simp) _
        have HC := Lib.hid (sameline_any x y _ (hox.1.below hb2) (hoy.1.below hb2) (Nat.le_trans hox.2.1 hox.2.2) (Nat.le_trans hoy.2.1 hoy.2.2))
        have HBW := Lib.hid (hbr.trans (hb2.mono hbr.size))
        have HS := Lib.hid hsame
        have eg := EG.out
        have k1 : (k : Int) < (n : Int) := by omega
        clear hb0 hr hr' hx hy hlk hmk hsame hLx hLy hox hoy hb2 hbr
        obtain ⟨xg, xA, xc, xns⟩ := x
        obtain ⟨yg, yA, yc, yns⟩ := y
        unfold lineV at HC
        simp only at HC HBW c1 c2 c3 c4
        go_wp2_with fail
        refine HC.out.mono ?_
        rintro e w1 ⟨rfl, hb1⟩
        have HB1 := Lib.hid (HBW.out.trans (hb1.mono HBW.out.size))
        clear hb1
        cases hq : decide ((⟨xg, xA, xc, xns⟩ : LX).ln = (⟨yg, yA, yc, yns⟩ : LX).ln) with
        | true =>
          have HE := Lib.hid (of_decide_eq_true hq)
          clear hq
          go_wp2_with fail
          go_roundw
          case rel =>
            refine ⟨k + 1, by omega, by go_num, fun j hj => ?_, HB1.out⟩
            by_cases e : j = k
            · subst e; exact HX.out.trans (by rw [HE.out]; exact HY.out.symm)
            · exact HS.out j (by omega)
          case measure => simp [intOf]; omega
        | false =>
          have hne : lnsX l ≠ lnsX m := fun e => by
            have h1 := HX.out
            rw [e, HY.out] at h1
            exact of_decide_eq_false hq (Option.some.inj h1).symm
          have HE := Lib.hid hne
          clear hne hq
          go_wp2_with fail
          go_ret
          exact ⟨ret_bool (decide_eq_false HE.out).symm, HB1.out⟩
      · obtain rfl : k = n := by omega
        have he : lnsX l = lnsX m := take_eq_all hsame.out (by rw [lnsX_length]; exact HLN.out) (by rw [lnsX_length]; exact HN.out)
        have HE := Lib.hid he
        clear he hsame
        go_wp2_with fail
        go_ret
        exact ⟨ret_bool (decide_eq_true HE.out).symm, hbr⟩
  · have g1 : ((l.length : Int) != (m.length : Int)) = true := by simp; omega
    have g2 : ((l.length : Int) = (m.length : Int)) = False := by rw [eq_iff_iff]; constructor <;> (intro h; first | omega | exact h.elim)
    have hne : lnsX l ≠ lnsX m := fun e => hlm (by rw [← lnsX_length l, ← lnsX_length m, e])
    have HE := Lib.hid hne
    clear hne hlm
    go_enter Tryz.func51, Tryz.ntmps51
    go_wp2_with fail
    go_ret
    exact ⟨ret_bool (decide_eq_false HE.out).symm, Below.refl _ _⟩

set_option maxRecDepth 100000 in
set_option maxHeartbeats 2000000 in
theorem osame_any (v u : Value) (o p : Ow) (w : World) (hv : OwAt w v o) (hu : OwAt w u p) : Calls Tryz.prog 20 #[v, u] w (BoolPost (decide (o = p)) w) := by
  obtain ⟨A, c, l, rfl, hl, hlo⟩ := ow_agg hv
  obtain ⟨B, d, m, rfl, hm, hmo⟩ := ow_agg hu
  obtain ⟨a, ol⟩ := o
  obtain ⟨b, pl⟩ := p
  simp only at hlo hmo ⊢
  subst hlo
  subst hmo
  have hb : Below w.heap.size w ((w.alloc (.cells #[.bool a, .slice A l.length c] 24)).alloc (.cells #[.bool b, .slice B m.length d] 24)) := ((Below.refl _ w).alloc (Nat.le_refl _) _).alloc (by simp) _
  have HE := Lib.hid (samelines_any l m A B c d _ (hl.below hb) (hm.below hb))
  have HB := Lib.hid hb
  clear hb hl hm hv hu
  by_cases hab : a = b
  · subst hab
    have HR : Hid (decide ((a, lnsX l) = (a, lnsX m)) = decide (lnsX l = lnsX m)) := by unfold Hid; rw [Bool.eq_iff_iff, decide_eq_true_iff, decide_eq_true_iff]; simp
    cases a <;>
    · go_enter Tryz.func20, Tryz.ntmps20
      go_wp2_with fail
      refine HE.out.mono ?_
      rintro e w' ⟨rfl, hb2⟩
      go_wp2_with fail
      go_ret
      exact ⟨ret_bool HR.out.symm, HB.out.trans (hb2.mono HB.out.size)⟩
  · have HR : Hid (decide ((a, lnsX l) = (b, lnsX m)) = false) := by unfold Hid; rw [decide_eq_false_iff_not]; intro h; exact hab (Prod.mk.inj h).1
    clear HE
    cases a <;> cases b <;> first
    | exact absurd rfl hab
    | (clear hab
       go_enter Tryz.func20, Tryz.ntmps20
       go_wp2_with fail
       go_ret
       exact ⟨ret_bool HR.out.symm, HB.out⟩)
end Go.Proofs.YtkihgbggndikpaaGreatDoor
