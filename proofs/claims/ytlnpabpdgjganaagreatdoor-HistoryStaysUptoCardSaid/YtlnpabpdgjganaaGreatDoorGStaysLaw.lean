/-
  What a commit makes of the whole tree, though it works on the names alone. No program is named here. · A row of trees in memory; the trees of a history's revisions. · A history stays where a row of trees grows. · The law HistoryStays, walked.
-/
import Derived.Test.YtlnpabpdgjganaaGreatDoorGTwin
import Derived.Test.YtlnpabpdgjganaaGreatDoorTRefD
namespace Go.Proofs.YtlnpabpdgjganaaGreatDoor
open Go Go.RowKit Go.Shelf Go.Proofs Go.ChangeMaps Go.Maps Go.WideMaps

/-- The same paths; a body is the same, or not too long. -/
def Like : List Fl → List Fl → Prop
  | [], [] => True
  | x :: b, y :: t => (x.1 = y.1 ∧ (x.2 = y.2 ∨ y.2.length ≤ 65536)) ∧ Like b t
  | _, _ => False
theorem Like.has (s : Bs) : ∀ {b t : List Fl}, Like b t → hasT b s = hasT t s
  | [], [], _ => rfl
  | x :: b, y :: t, h => by
    have ih := Like.has s h.2
    unfold hasT at ih ⊢
    rw [List.any_cons, List.any_cons, ih, h.1.1]
theorem Like.filt (s : Bs) : ∀ {b t : List Fl}, Like b t → Like (dropT b s) (dropT t s)
  | [], [], _ => trivial
  | x :: b, y :: t, h => by
    have ih := Like.filt s h.2
    unfold dropT at ih ⊢
    rw [List.filter_cons, List.filter_cons, h.1.1]
    split
    · exact ⟨h.1, ih⟩
    · exact ih
theorem Like.ins (f : Fl) : ∀ {b t : List Fl}, Like b t → Like (insT b f) (insT t f)
  | [], [], _ => ⟨⟨rfl, .inl rfl⟩, trivial⟩
  | x :: b, y :: t, h => by
    have ih := Like.ins f h.2
    unfold insT at ih ⊢
    rw [List.takeWhile_cons, List.takeWhile_cons, List.dropWhile_cons, List.dropWhile_cons, h.1.1]
    split
    · exact ⟨h.1, ih⟩
    · exact ⟨⟨rfl, .inl rfl⟩, h⟩
theorem Like.ch {b t : List Fl} (h : Like b t) (d : Dl) : Like (chT b d) (chT t d) := by
  unfold chT
  split
  · exact h.filt _
  · exact (h.filt _).ins _
theorem Like.ref {b t : List Fl} (h : Like b t) (d : Dl) : refT b d = refT t d := by
  unfold refT
  rw [h.has]
theorem Like.steps : ∀ (D : List Dl) {b t f : List Fl}, Like b t → stepsT b D = .ok f → ∃ f1, stepsT t D = .ok f1 ∧ Like f f1
  | [], b, t, f, h, e => by
    cases e
    exact ⟨t, rfl, h⟩
  | d :: D, b, t, f, h, e => by
    unfold stepsT at e ⊢
    rw [stepT_ref] at e ⊢
    rw [← h.ref]
    by_cases h0 : refT b d = 0
    · rw [if_pos h0] at e ⊢
      exact Like.steps D (h.ch d) e
    · rw [if_neg h0] at e
      cases e
theorem Like.bare : ∀ {b t : List Fl}, Like b t → bareT b = bareT t
  | [], [], _ => rfl
  | x :: b, y :: t, h => by
    have ih := Like.bare h.2
    unfold bareT at ih ⊢
    rw [List.map_cons, List.map_cons, ih, h.1.1]
theorem Like.of : ∀ {t : List Fl}, (∀ x ∈ t, x.2.length ≤ 65536) → Like (bareT t) t
  | [], _ => trivial
  | x :: t, h => ⟨⟨rfl, .inr (h x (by simp))⟩, Like.of fun y hy => h y (by simp [hy])⟩
theorem Like.len : ∀ {b t : List Fl}, Like b t → b.length = t.length
  | [], [], _ => rfl
  | x :: b, y :: t, h => by rw [List.length_cons, List.length_cons, Like.len h.2]
theorem Like.oks : ∀ {b t : List Fl}, Like b t → b.all okF = true → t.all okF = true
  | [], [], _, _ => rfl
  | x :: b, y :: t, h, h3 => by
    rw [List.all_cons, Bool.and_eq_true] at h3 ⊢
    refine ⟨?_, Like.oks h.2 h3.2⟩
    have h4 := h3.1
    unfold okF at h4 ⊢
    rw [Bool.and_eq_true, decide_eq_true_eq] at h4 ⊢
    rw [← h.1.1]
    refine ⟨h4.1, ?_⟩
    rcases h.1.2 with e | e
    · rw [← e]; exact h4.2
    · exact e
theorem Like.alls {x y : Fl} (e : x.1 = y.1) : ∀ {b t : List Fl}, Like b t → b.all (aheadB x) = t.all (aheadB y)
  | [], [], _ => rfl
  | z :: b, u :: t, h => by
    rw [List.all_cons, List.all_cons, Like.alls e h.2]
    unfold aheadB
    rw [e, h.1.1]
theorem Like.pairs : ∀ {b t : List Fl}, Like b t → pairB aheadB b = true → pairB aheadB t = true
  | [], [], _, _ => rfl
  | x :: b, y :: t, h, h3 => by
    unfold pairB at h3 ⊢
    rw [Bool.and_eq_true] at h3 ⊢
    exact ⟨by rw [← Like.alls h.1.1 h.2]; exact h3.1, Like.pairs h.2 h3.2⟩
theorem Like.right {b t : List Fl} (h : Like b t) (hr : rightT b = true) : rightT t = true := by
  have hlen := h.len
  unfold rightT at hr ⊢
  simp only [Bool.and_eq_true, decide_eq_true_eq] at hr ⊢
  exact ⟨⟨by omega, h.oks hr.1.2⟩, h.pairs hr.2⟩
/-- What is applied to the names is applied to the tree. -/
theorem apply_like {t f : List Fl} {D : List Dl} (ht : rightT t = true) (h : applyT (bareT t) D = .ok f) : ∃ f1, applyT t D = .ok f1 ∧ bareT f1 = bareT f ∧ stepsT t D = .ok f1 := by
  unfold applyT at h ⊢
  split at h
  · cases h
  · rename_i u hu
    obtain ⟨f1, h1, h2⟩ := (Like.of fun x hx => (right_ok ht x hx).2).steps D hu
    split at h
    · cases h
    · split at h
      · cases h
        rename_i hr
        have hr1 := h2.right hr
        refine ⟨f1, ?_, h2.bare.symm, h1⟩
        rw [h1]
        show (if longT f1 then _ else _) = _
        rw [right_not_long hr1, if_neg (by decide), if_pos hr1]
      · cases h

/-- What a path holds behind some changes. -/
def valD (D : List Dl) (s : Bs) (v : Option Bs) : Option Bs := D.foldl (fun v d => if d.p = s then (if d.k = 3 then none else some d.b) else v) v
theorem steps_val : ∀ (D : List Dl) {t f : List Fl} {V : Bs → Option Bs}, Rises t → (∀ s b, (s, b) ∈ t ↔ V s = some b) → stepsT t D = .ok f → Rises f ∧ ∀ s b, (s, b) ∈ f ↔ valD D s (V s) = some b
  | [], t, f, V, h1, h2, e => by
    cases e
    exact ⟨h1, h2⟩
  | d :: D, t, f, V, h1, h2, e => by
    unfold stepsT at e
    rw [stepT_ref] at e
    by_cases h0 : refT t d = 0
    · rw [if_pos h0] at e
      · refine steps_val D (V := fun s => if d.p = s then (if d.k = 3 then none else some d.b) else V s) ?_ ?_ e
        · unfold chT
          split
          · exact rises_dropT _ h1
          · exact rises_putT _ h1
        · intro s b
          unfold chT
          by_cases hk : d.k = 3
          · rw [if_pos hk, mem_dropT, h2, if_pos hk]
            by_cases hs : d.p = s
            · subst hs
              simp
            · rw [if_neg hs]
              exact ⟨fun h => h.1, fun h => ⟨h, fun e => hs e.symm⟩⟩
          · rw [if_neg hk, mem_putT, h2, if_neg hk]
            by_cases hs : d.p = s
            · subst hs
              rw [if_pos rfl]
              simp [eq_comm]
            · rw [if_neg hs]
              constructor
              · rintro (h | h)
                · cases h; exact absurd rfl hs
                · exact h.1
              · intro h
                exact .inr ⟨h, fun e => hs e.symm⟩
    · rw [if_neg h0] at e
      cases e
/-- What the chain tells behind one more revision. -/
theorem valT_add (n : Nat) (s : Bs) : ∀ (D : List Dl) (c : List (Nat × Int × Bs)), valT (chainD n D s ++ c) n = valD D s (valT c n)
  | [], _ => rfl
  | d :: D, c => by
    unfold valD
    rw [List.foldl_cons]
    by_cases hs : d.p = s
    · have e : chainD n (d :: D) s ++ c = chainD n D s ++ ((n, d.k, d.b) :: c) := by
        unfold chainD
        rw [List.filter_cons, if_pos (by simpa using hs), List.map_cons, List.reverse_cons, List.append_assoc]
        rfl
      have e2 : valT ((n, d.k, d.b) :: c) n = if d.k = 3 then none else some d.b := by simp [valT]
      rw [e, valT_add n s D, e2, if_pos hs]
      rfl
    · have e : chainD n (d :: D) s = chainD n D s := by
        unfold chainD
        rw [List.filter_cons, if_neg (by simpa using hs)]
      rw [e, valT_add n s D, if_neg hs]
      rfl
theorem valR_add {G : Nat} {L : List DX} {H : List (Nat × List DX)} (s : Bs) (hH : H ≠ []) : valR ((G, L) :: H) H.length s = valD (L.map DX.dl) s (valR H (H.length - 1) s) := by
  have hl : 0 < H.length := List.length_pos_iff.2 hH
  have e : valR H (H.length - 1) s = valT ((chain H s).map RX.t) H.length := by
    unfold valR
    rw [← valC_t]
    unfold valC
    rw [dropC_none fun x hx => by have := chain_rev H s x hx; omega, dropC_none fun x hx => by have := chain_rev H s x hx; omega]
  rw [e]
  unfold valR
  rw [valC_t]
  show valT ((chainL H.length L s ++ chain H s).map RX.t) H.length = _
  rw [List.map_append, chainL_t, valT_add]
/-- One more commit: the tree of its revision. -/
theorem commit_tree {t f : List Fl} {G : Nat} {L : List DX} {H : List (Nat × List DX)} (hH : H ≠ []) (hr : rightT t = true) (ht : IsTree H (H.length - 1) t) (h : applyT (bareT t) (L.map DX.dl) = .ok f) :
    ∃ f1, applyT t (L.map DX.dl) = .ok f1 ∧ IsTree ((G, L) :: H) H.length f1 ∧ bareT f1 = bareT f := by
  obtain ⟨f1, h1, h2, h3⟩ := apply_like hr h
  obtain ⟨h4, h5⟩ := steps_val _ ht.1 ht.2 h3
  exact ⟨f1, h1, ⟨h4, fun s b => by rw [h5, valR_add s hH]⟩, h2⟩
end Go.Proofs.YtlnpabpdgjganaaGreatDoor
namespace Go.Proofs.YtlnpabpdgjganaaGreatDoor
open Go Go.RowKit Go.Shelf Go.Proofs Go.ChangeMaps Go.Maps Go.WideMaps

theorem small_of_right {l : List FX} (h : rightT (flsX l) = true) : SmallX l ∧ l.length ≤ 1000 := by
  have h1 := right_len h
  rw [flsX_length] at h1
  refine ⟨⟨by omega, fun x hx => ?_⟩, h1⟩
  have h2 := right_ok h x.fl (List.mem_map_of_mem hx)
  have h3 : x.p.data.toList.length ≤ 100 := by
    have h4 : rightB x.p.data.toList = true := h2.1
    unfold rightB partsB at h4
    simp only [Bool.and_eq_true, decide_eq_true_eq] at h4
    exact h4.1
  have e : x.p.data.toList.length = x.p.size := by rw [Array.length_toList]; rfl
  have h5 : x.b.length ≤ 65536 := h2.2
  exact ⟨by omega, by omega⟩

/-- A tree as an element of a row. -/
structure TX where
  A : Option Addr
  c : Nat
  l : List FX
def TX.v (x : TX) : Value := .slice x.A x.l.length x.c
structure RowsT (base : Nat) (w : World) (v : Value) (ts : List TX) : Prop where
  own : w.ownsRow base 23 1 v ts.length (ts.map TX.v)
  bod : ∀ x ∈ ts, TreeMade base w x.v x.l
theorem RowsT.nil (base : Nat) (w : World) : RowsT base w (.slice none 0 0) [] := ⟨World.ownsRow_nil _ _ _ _, fun x hx => by cases hx⟩
theorem RowsT.below {base : Nat} {w w' : World} {v : Value} {ts : List TX} (h : RowsT base w v ts) (hb : Below w.heap.size w w') : RowsT base w' v ts :=
  ⟨h.own.kept (grownN hb none) (by cases v.ownBlock <;> simp), fun x hx => (h.bod x hx).below hb⟩
theorem TreeMade.keepR {base : Nat} {w w' : World} {v : Value} {l : List FX} (h : TreeMade base w v l) (hk : KeepR w w') : TreeMade base w' v l := by
  refine ⟨⟨h.own.1, ?_⟩, fun x hx => (h.bod x hx).keep fun g cur hg => hk g cur _ (.inr (.inl rfl)) hg⟩
  rcases h.own.2 with h1 | ⟨g, cap, cur, h1, h2, h3, h4⟩
  · exact .inl h1
  · exact .inr ⟨g, cap, cur, h1, h2, (hk g cur _ (.inr (.inr (.inl rfl))) h3).trans h3, h4⟩
theorem TreeMade.base {base base' : Nat} {w : World} {v : Value} {l : List FX} (h : TreeMade base w v l) (hb : base' ≤ base) : TreeMade base' w v l := ⟨FilesOwn.base h.own hb, h.bod⟩
theorem RowsT.keepR {base : Nat} {w w' : World} {v : Value} {ts : List TX} (h : RowsT base w v ts) (hk : KeepR w w') : RowsT base w' v ts := by
  refine ⟨⟨h.own.1, ?_⟩, fun x hx => (h.bod x hx).keepR hk⟩
  rcases h.own.2 with h1 | ⟨g, cap, cur, h1, h2, h3, h4⟩
  · exact .inl h1
  · exact .inr ⟨g, cap, cur, h1, h2, (hk g cur _ (.inr (.inr (.inr rfl))) h3).trans h3, h4⟩
theorem RowsT.slice {base : Nat} {w : World} {v : Value} {ts : List TX} (h : RowsT base w v ts) : ∃ A c, v = .slice A ts.length c := by
  rcases h.own.2 with ⟨rfl, h0⟩ | ⟨g, cap, cur, rfl, _⟩
  · exact ⟨none, 0, by rw [h0]⟩
  · exact ⟨_, _, rfl⟩
theorem RowsT.at_ {base : Nat} {w : World} {A : Option Addr} {n c : Nat} {ts : List TX} (h : RowsT base w (.slice A n c) ts) {i : Nat} {x : TX} (hx : ts[i]? = some x) : n = ts.length ∧ ∃ g, A = some ⟨g, 0, none⟩ ∧ w.cell? ⟨g, i, none⟩ = some x.v := by
  have hl := (List.getElem?_eq_some_iff.1 hx).1
  rcases h.own.2 with ⟨_, h0⟩ | ⟨g, cap, cur, h1, _, hg, _⟩
  · omega
  · cases h1
    refine ⟨rfl, g, rfl, ?_⟩
    have h2 := World.ownsRow.cells h.own (g := g) rfl i x.v (by rw [List.getElem?_map, hx]; rfl)
    rw [Go.WideShapes.add_plain, Nat.zero_add] at h2
    exact h2
theorem tree_info : (Tryz.prog.info? 23).map (fun i => (i.zero, i.size, i.bytes)) = some (some (.slice none 0 0), 1, 24) := by kernel_rfl
theorem wpList_appT {base : Nat} {w : World} {v : Value} {ts : List TX} {ops : Array Oper} {rest : List Oper} {o : Oper} {a : Act} {Q : Exit → Act → World → Prop} (hgd : o.guard = none) (s x : Operand)
    (ho : o.op = .call { callee := .builtin .append, args := #[s, x], argTypes := #[32, 32] }) (hs : a.eval s = v) (hr : RowsT base w v ts) (y : TX) (hy : TreeMade base w y.v y.l)
    (g : Nat) (hx : a.eval x = .slice (some ⟨g, 0, none⟩) 1 1) (hcell : w.cell? ⟨g, 0, none⟩ = some y.v) (hlen : ts.length ≤ 1000000) (hbase : base ≤ w.heap.size)
    (h : ∀ v' w', RowsT base w' v' (ts ++ [y]) → w.grownBy w' v.ownBlock → wpList Tryz.prog ops Q rest (a.put o.dst v') w') : wpList Tryz.prog ops Q (o :: rest) a w := by
  obtain ⟨i0, hi, hz0, hz1, hz2⟩ := info_parts tree_info
  refine wpList_append_own w hgd s x 32 ho base 23 i0 (.slice none 0 0) 1 24 Tryz.underlying32 hi hz0 hz1 hz2 rfl (by decide) v ts.length (ts.map TX.v) hs hr.own ⟨g, 0, none⟩ 1 1 [y.v] hx rfl
    (fun j u hu => by
      have hj : j = 0 := by
        have := (List.getElem?_eq_some_iff.1 hu).1
        simp at this; omega
      subst hj
      obtain rfl : y.v = u := by simpa using hu
      rw [Go.WideShapes.add_plain]; exact hcell) (fun u hu => by rw [List.mem_singleton] at hu; subst hu; rfl) (by unfold maxLen; omega) (by omega) hbase fun v' w' h1 h2 _ => h v' w' ⟨?_, ?_⟩ h2
  · rw [List.length_append, List.map_append]; exact h1
  · have hrow : ∀ q t' (cur : Array Value), v.ownBlock = some q → w.heap[q]? = some (Obj.cells cur t' (0, 0)) → t' = 23 := fun q t' cur e hq => by
      obtain ⟨_, cur2, h3⟩ := rowT_ge hr.own e
      rw [hq] at h3
      cases h3
      rfl
    have hk : ∀ {z : TX}, TreeMade base w z.v z.l → TreeMade base w' z.v z.l := fun {z} hz => by
      refine ⟨hz.own.keepG h2 fun q e cur hq => ?_, fun y hy => (hz.bod y hy).keep fun q cur hq => h2.block q (Array.getElem?_eq_some_iff.1 hq).1 fun e => ?_⟩
      · have h4 := hrow q _ cur e hq
        revert h4; decide
      · have h4 := hrow q _ cur e.symm hq
        revert h4; decide
    intro z hz
    rcases List.mem_append.1 hz with hz | hz
    · exact hk (hr.bod z hz)
    · rw [List.mem_singleton] at hz; subst hz; exact hk hy

theorem IsTree.later {G : Nat} {L : List DX} {H : List (Nat × List DX)} {k : Nat} {f : List Fl} (h : IsTree H k f) (hk : k < H.length) : IsTree ((G, L) :: H) k f := ⟨h.1, fun s b => by rw [h.2, valR_later hk]⟩
/-- The trees of all revisions. -/
structure Trees (H : List (Nat × List DX)) (t : List Fl) (ts : List TX) : Prop where
  len : ts.length = H.length
  each : ∀ k x, ts[k]? = some x → IsTree H k (flsX x.l) ∧ rightT (flsX x.l) = true
  last : ∃ x, ts[H.length - 1]? = some x ∧ Made t H (bareT (flsX x.l))
  first : ∃ x, ts[0]? = some x ∧ flsX x.l = t
theorem Trees.start {t : List Fl} {G : Nat} {l : List DX} {b : List Fl} {x : TX} (hr : rightT t = true) (hm : Made t [(G, l)] b) (hx : IsTree [(G, l)] 0 (flsX x.l)) : Trees [(G, l)] t [x] := by
  have e := first_eq (right_sorted hr) hm hx
  refine ⟨rfl, fun k y hy => ?_, ⟨x, rfl, by rw [e]; exact ⟨hm.1, rfl⟩⟩, ⟨x, rfl, e⟩⟩
  have hk : k = 0 := by
    have := (List.getElem?_eq_some_iff.1 hy).1
    simpa using this
  subst hk
  obtain rfl : x = y := by simpa using hy
  exact ⟨hx, by rw [e]; exact hr⟩
theorem Trees.step {H : List (Nat × List DX)} {t : List Fl} {ts : List TX} {G : Nat} {L : List DX} {b : List Fl} {u : TX} (h : Trees H t ts) (hm : Made t ((G, L) :: H) b) (hu : IsTree ((G, L) :: H) H.length (flsX u.l)) :
    ∃ x, ts[H.length - 1]? = some x ∧ rightT (flsX x.l) = true ∧ applyT (flsX x.l) (L.map DX.dl) = .ok (flsX u.l) ∧ Trees ((G, L) :: H) t (ts ++ [u]) := by
  obtain ⟨x, hx, hmx⟩ := h.last
  have hH : H ≠ [] := fun e => by subst e; exact hmx
  have hl : 0 < H.length := List.length_pos_iff.2 hH
  obtain ⟨b0, h1, h2, f, h3, _⟩ := hm.next hH
  have e := Made.unique h1 hmx
  subst e
  obtain ⟨hit, hrx⟩ := h.each _ x hx
  obtain ⟨f1, h4, h5, h6⟩ := commit_tree (G := G) hH hrx hit h3
  have e2 : flsX u.l = f1 := isTree_unique hu h5 fun _ => rfl
  refine ⟨x, hx, hrx, by rw [e2]; exact h4, by rw [List.length_append, h.len]; rfl, fun k y hy => ?_, ⟨u, ?_, ?_⟩, ?_⟩
  · by_cases hk : k < ts.length
    · rw [List.getElem?_append_left hk] at hy
      obtain ⟨h7, h8⟩ := h.each k y hy
      exact ⟨h7.later (by rw [← h.len]; exact hk), h8⟩
    · rw [List.getElem?_append_right (by omega)] at hy
      have hk2 : k - ts.length = 0 := by
        have := (List.getElem?_eq_some_iff.1 hy).1
        simpa using this
      rw [hk2] at hy
      obtain rfl : u = y := by simpa using hy
      have hk3 : k = H.length := by have := h.len; omega
      subst hk3
      exact ⟨hu, by rw [e2]; exact applyT_ok h4⟩
  · rw [List.length_cons, Nat.add_sub_cancel, ← h.len, List.getElem?_append_right (Nat.le_refl _), Nat.sub_self]; rfl
  · rw [e2, h6]
    exact h1.add h2 h3
  · obtain ⟨y, hy, e3⟩ := h.first
    exact ⟨y, by rw [List.getElem?_append_left (List.getElem?_eq_some_iff.1 hy).1]; exact hy, e3⟩
end Go.Proofs.YtlnpabpdgjganaaGreatDoor
namespace Go.Proofs.YtlnpabpdgjganaaGreatDoor
open Go Go.RowKit Go.Shelf Go.Proofs Go.ChangeMaps Go.Maps Go.WideMaps

theorem RevAt.keepQ {w w' : World} {G : Nat} {L : List DX} {r : Nat} {D : DataW Unit} (h : RevAt w G L r D) (k1 : ∀ (g : Nat) (cur : Array Value), w.heap[g]? = some (.cells cur 85 (0, 0)) → w'.heap[g]? = w.heap[g]?) (k2 : ∀ (g : Nat) (cur : Array Value), w.heap[g]? = some (.cells cur 5 (0, 0)) → w'.heap[g]? = w.heap[g]?) : RevAt w' G L r D := by
  obtain ⟨cur, hc, hs⟩ := h.blk
  refine ⟨⟨cur, (k1 G cur hc).trans hc, hs⟩, fun j x hx => ?_⟩
  obtain ⟨A', c', h1, h2⟩ := h.recs j x hx
  exact ⟨A', c', h1.keep fun _ => k1 G cur hc, h2.keep fun g cur2 hg => k2 g cur2 hg⟩
theorem RevsF.keepQ {w w' : World} (k1 : ∀ (g : Nat) (cur : Array Value), w.heap[g]? = some (.cells cur 85 (0, 0)) → w'.heap[g]? = w.heap[g]?) (k2 : ∀ (g : Nat) (cur : Array Value), w.heap[g]? = some (.cells cur 5 (0, 0)) → w'.heap[g]? = w.heap[g]?) : ∀ {H : List (Nat × List DX)} {D : DataW Unit}, RevsF w H D → RevsF w' H D
  | [], _, h => h
  | (_, _) :: _, _, ⟨D', h1, h2, h3⟩ => ⟨D', h1.keepQ k1 k2, h2.keepQ k1 k2, h3⟩
theorem HistAt.turnT {base : Nat} {w w' : World} {hb n : Nat} {nm : List FX} {M : Bs → Nat} {nv cv : Value} {mb k : Nat} {D : DataW Unit} {H : List (Nat × List DX)} {row : Option Nat} (h : HistAt base w hb n nm M nv cv mb k D H) (hg : w.grownBy w' row)
    (hr : ∀ g, row = some g → ∃ cur : Array Value, w.heap[g]? = some (.cells cur 23 (0, 0))) : HistAt base w' hb n nm M nv cv mb k D H := by
  have hne : ∀ (g : Nat) (o : Obj), w.heap[g]? = some o → (∀ cur : Array Value, o ≠ .cells cur 23 (0, 0)) → w'.heap[g]? = w.heap[g]? := fun g o ho hn => hg.block g (Array.getElem?_eq_some_iff.1 ho).1 fun e => by
    obtain ⟨cur, hc⟩ := hr g e.symm
    rw [ho] at hc
    exact hn cur (Option.some.inj hc)
  refine ⟨(hne hb _ h.heap fun cur e => by injection e with _ e2 _; revert e2; decide).trans h.heap, h.names.keepG hg fun g e cur hc => ?_, h.right, h.bare, World.ownsRow.kept h.commits hg ?_, h.num,
    h.full.keepQ (fun g cur hc => hne g _ hc fun cur2 e => by injection e with _ e2 _; revert e2; decide) (fun g cur hc => hne g _ hc fun cur2 e => by injection e with _ e2 _; revert e2; decide), h.sm,
    h.map.keep ?_, h.room, h.revs.keep (fun g cur hc => hne g _ hc fun cur2 e => by injection e with _ e2 _; revert e2; decide), h.le, h.lb, h.lm⟩
  · obtain ⟨cur2, hc2⟩ := hr g e
    rw [hc] at hc2
    have hc2 := Option.some.inj hc2
    injection hc2 with _ e2 _
    revert e2; decide
  · cases e : cv.ownBlock with
    | none => exact .inl rfl
    | some g =>
      refine .inr fun e2 => ?_
      obtain ⟨_, cur, hh⟩ := rowT_ge h.commits e
      obtain ⟨cur2, hc2⟩ := hr g e2.symm
      rw [hh] at hc2
      have hc2 := Option.some.inj hc2
      injection hc2 with _ e3 _
      revert e3; decide
  · obtain ⟨es, clock, he⟩ := h.map.block
    exact hne mb _ he fun cur e => by cases e
theorem HSome.turnT {base : Nat} {w w' : World} {hb n : Nat} {t : List Fl} {H : List (Nat × List DX)} {row : Option Nat} (h : HSome base w hb n t H) (hg : w.grownBy w' row)
    (hr : ∀ g, row = some g → ∃ cur : Array Value, w.heap[g]? = some (.cells cur 23 (0, 0))) : HSome base w' hb n t H := by
  obtain ⟨nm, M, nv, cv, mb, k, D, h, hm⟩ := h
  exact ⟨nm, M, nv, cv, mb, k, D, h.turnT hg hr, hm⟩
end Go.Proofs.YtlnpabpdgjganaaGreatDoor
namespace Go.Proofs.YtlnpabpdgjganaaGreatDoor
open Go Go.RowKit Go.Shelf Go.Proofs Go.ChangeMaps Go.Maps Go.WideMaps
attribute [local go_sem] Oper.semAt_some

set_option maxRecDepth 200000 in
set_option maxHeartbeats 16000000 in
theorem hstayslaw_any (t : List FX) (l : List LX) (A B : Option Addr) (c d : Nat) (w : World) (ht : TreeAt w A c t) (zt : BigX t) (hl : LRowAt w B d l) (hb : longLN l ≤ 4611686018427387904) (hm : MaxOk w) :
    Calls Tryz.prog 4 #[.slice A t.length c, .slice B l.length d] w fun e w' => e = .returned (.bool true) ∧ Below w.heap.size w w' := by
  have HSM := Lib.hid (hsmall_any t l A B c d w ht zt hl hb)
  have HKN := Lib.hid (fun (W : World) (h : Below w.heap.size w W) => hknown_any W (hm.below h))
  have HT := Lib.hid ht
  have HL := Lib.hid hl
  have HM := Lib.hid hm
  have hcap : l.length ≤ maxLen := Nat.le_trans hl.cap hl.capm
  unfold maxLen at hcap
  clear ht zt hl hb hm
  cases h1 : hsmallL t l with
  | false =>
    rw [h1] at HSM
    clear h1
    go_enter Tryz.func4, Tryz.ntmps4
    go_wp2_with fail
    refine HSM.out.mono ?_
    rintro e w1 ⟨rfl, hb1⟩
    have HB1 := Lib.hid hb1
    clear hb1
    go_wp2_with fail
    refine (HKN.out w1 HB1.out).mono ?_
    rintro e w9 ⟨rfl, hb9⟩
    have HB9 := Lib.hid (HB1.out.trans (hb9.mono HB1.out.size))
    clear hb9
    go_wp2_with fail
    go_ret
    exact ⟨rfl, HB9.out⟩
  | true =>
  have HST := Lib.hid (small_treeG h1)
  have HSD := Lib.hid (fun x (hx : x ∈ l) => small_delsG h1 hx)
  have h25 : l.length ≤ 25 := by
    unfold hsmallL at h1
    simp only [Bool.and_eq_true, decide_eq_true_eq] at h1
    exact h1.1.2
  rw [h1] at HSM
  clear h1
  go_enter Tryz.func4, Tryz.ntmps4
  go_wp2_with fail
  refine HSM.out.mono ?_
  rintro e w1 ⟨rfl, hb1⟩
  have HB1 := Lib.hid hb1
  have HNEW := Lib.hid (hnewS_any t A c w1 (HT.out.below hb1) HST.out (HM.out.below hb1))
  clear hb1
  go_wp2_with fail
  refine HNEW.out.mono ?_
  intro e w2 hp
  unfold NewS at hp
  cases hr : rightT (flsX t) with
  | false =>
    rw [if_neg (by rw [hr]; decide)] at hp
    obtain ⟨rfl, hb2⟩ := hp
    have HB2 := Lib.hid (HB1.out.trans (hb2.mono HB1.out.size))
    clear hb2 hr
    go_wp2_with fail
    refine (HKN.out w2 HB2.out).mono ?_
    rintro e w9 ⟨rfl, hb9⟩
    have HB9 := Lib.hid (HB2.out.trans (hb9.mono HB2.out.size))
    clear hb9
    go_wp2_with fail
    go_ret
    exact ⟨rfl, HB9.out⟩
  | true =>
  rw [if_pos hr] at hp
  obtain ⟨hb, G, l0, rfl, hH, hb2⟩ := hp
  have HB2 := Lib.hid (HB1.out.trans (hb2.mono HB1.out.size))
  have HS0 : Hid (HSome w.heap.size w2 hb 0 (flsX t) [(G, l0)]) := by
    obtain ⟨nm, M, nv, cv, mb, k, D, h, hm⟩ := hH
    exact Lib.hid ⟨nm, M, nv, cv, mb, k, D, h.rebase HB1.out.size, hm⟩
  have HRT := Lib.hid hr
  have HAT0 := Lib.hid (HS0.out.atR (r := 0) (Nat.zero_le _) (by omega))
  clear hb2 hH hr HNEW HSM
  go_wp2_with fail
  refine HAT0.out.mono ?_
  rintro e w3 ⟨v, lf, rfl, htm, hit, hlf, hb3⟩
  obtain ⟨Af, cf, rfl⟩ := htm.own.slice
  have htm0 : TreeMade w.heap.size w3 (TX.v ⟨Af, cf, lf⟩) lf := htm.base HB2.out.size
  obtain ⟨bk, hmk⟩ := HS0.out.made
  have HTS := Lib.hid (Trees.start (x := ⟨Af, cf, lf⟩) HRT.out hmk hit)
  have HHT := Lib.hid htm0
  have LF := Lib.hid hlf
  have HB3 := Lib.hid (HB2.out.trans (hb3.mono HB2.out.size))
  have HS3 := Lib.hid (HS0.out.below hb3)
  clear htm hit hlf hb3 htm0 hmk HAT0
  go_wp2_with (at_builtin; refine wpList_appT (base := w.heap.size) (v := .slice none 0 0) (ts := []) rfl _ _ rfl rfl (RowsT.nil _ _) ⟨Af, cf, lf⟩ (HHT.out.below (below_box w3 _)) w3.heap.size rfl (cell_of_row _ _ 0 _ _ _ (heap_alloc_new w3 _)) (by simp) (Nat.le_trans HB3.out.size (below_box w3 _).size) ?_; intro v4 w4 hrt hgrow)
  have HB4 := Lib.hid ((HB3.out.trans ((below_box w3 (.cells #[.slice Af lf.length cf] 23)).mono HB3.out.size)).grown hgrow (Nat.le_trans HB3.out.size (below_box w3 _).size) fun q hq => by cases hq)
  have HS4 := Lib.hid ((HS3.out.below (below_box w3 (.cells #[.slice Af lf.length cf] 23))).below ⟨hgrow.os, hgrow.tape, hgrow.output, hgrow.size, fun k hk => hgrow.block k hk (by simp [Value.ownBlock])⟩)
  have HR4 := Lib.hid hrt
  clear hgrow hrt
  go_wp2_with fail
  go_loopw [7, 10] (fun v i wr => ∃ (j n : Nat) (H : List (Nat × List DX)) (ts : List TX), j ≤ l.length ∧ n ≤ j ∧ i = .int .i64 j ∧ HSome w.heap.size wr hb n (flsX t) H ∧ RowsT w.heap.size wr v ts ∧ Hid (Trees H (flsX t) ts) ∧ Hid (ts[0]? = some ⟨Af, cf, lf⟩) ∧ Below w.heap.size w wr) (fun _ i _ => l.length - (intOf i).toNat)
  case atStart => exact ⟨0, 0, _, _, Nat.zero_le _, Nat.le_refl _, rfl, HS4.out, HR4.out, HTS, Lib.hid rfl, HB4.out⟩
  case round =>
    clear HS4 HR4 HTS HB4
    obtain ⟨j, n, H, ts, hj, hnj, rfl, hS, hrt, htr, hy0, hbr⟩ := hrel
    obtain ⟨At, ct, rfl⟩ := hrt.slice
    have HBR := Lib.hid hbr
    have HS := Lib.hid hS
    have HR := Lib.hid hrt
    have hnum := hS.num
    have htl := htr.out.len
    have HNUM := Lib.hid hnum
    have htn : ts.length = n + 1 := by omega
    have HHD := Lib.hid hS.head
    clear hbr hS hrt hnum htl
    by_cases h1 : j < l.length
    · obtain ⟨x, hx⟩ : ∃ x, l[j]? = some x := ⟨_, List.getElem?_eq_getElem h1⟩
      obtain ⟨g, o, hB, hrw⟩ := HL.out.row (by omega)
      have c0 := hrw j x hx
      have hmem := List.mem_of_getElem? hx
      have HCELL := Lib.hid (fun (W : World) (h : Below w.heap.size w W) => (h.cell (p := ⟨g, o + j, none⟩) (World.block_lt_of_cell? w (a := ⟨g, o + j, none⟩) c0)).trans c0)
      have c1 := HCELL.out wr HBR.out
      have HDX := Lib.hid (HL.out.dels x hmem)
      have HSX := Lib.hid (HSD.out x hmem)
      have HC := Lib.hid (HS.out.commit HBR.out (by omega) x.d x.A x.c (DelsKeep.args HDX.out HBR.out HS.out.lb.1) HSX.out HM.out)
      have k1 : (j : Int) < (l.length : Int) := by omega
      obtain ⟨r, hr⟩ : ∃ r, r = n + 1 := ⟨_, rfl⟩
      have hqr : ((n + 1 : Nat) : Int) = (r : Int) := by omega
      have e1 : wrap64 ((n : Int) + 1) = (r : Int) := by rw [IntWalk.wrap64_in _ (by omega)]; omega
      have e2 : ((n : Int) == (r : Int)) = false := by rw [beq_eq_false_iff_ne]; omega
      have HQR := Lib.hid hqr
      clear hqr
      have HJL := Lib.hid h1
      have HNJ := Lib.hid hnj
      have HRN := Lib.hid hr
      have HTN := Lib.hid htn
      subst hB
      clear hx hrw hmem hnj h1 hj c0 hr htn
      go_wp2_with fail
      refine HHD.out.mono ?_
      rintro e w9 ⟨rfl, hw9⟩
      have hw9 := hw9.symm
      subst hw9
      go_wp2_with fail
      refine HC.out.mono ?_
      intro e w5 hp
      rcases hp with ⟨q, hq, _, rfl, hb5⟩ | ⟨G5, he, hS5, hb5, hk5⟩
      · have HB5 := Lib.hid (HBR.out.trans (hb5.mono HBR.out.size))
        have HS5 := Lib.hid (HS.out.below hb5)
        have HR5 := Lib.hid (HR.out.below hb5)
        have HH5 := Lib.hid HS5.out.head
        have q0 : (q == 0) = false := by simpa using hq
        have q1 : (q != 0) = true := by simpa using hq
        clear hb5 hq c1
        go_wp2_with fail
        refine HH5.out.mono ?_
        rintro e wx ⟨rfl, hwx⟩
        have hwx := hwx.symm
        subst hwx
        go_wp2_with fail
        refine HH5.out.mono ?_
        rintro e wx ⟨rfl, hwx⟩
        have hwx := hwx.symm
        subst hwx
        go_wp2_with fail
        go_roundw
        case rel => exact ⟨j + 1, n, H, ts, by have := HJL.out; omega, by have := HNJ.out; omega, by go_num, HS5.out, HR5.out, htr, hy0, HB5.out⟩
        case measure => simp [intOf]; have := HJL.out; omega
      · rw [HQR.out] at he
        subst he
        have HB5 := Lib.hid (HBR.out.trans hb5)
        have HS5 := Lib.hid hS5
        have HR5 := Lib.hid (HR.out.keepR hk5)
        have HH5 := Lib.hid hS5.head
        rw [HQR.out] at HH5
        clear hb5 hS5 hk5 c1
        have HAT5 := Lib.hid (HS5.out.atR (r := r) (by have := HRN.out; omega) (by have := HRN.out; have := HNJ.out; have := HJL.out; omega))
        go_wp2_with fail
        refine HH5.out.mono ?_
        rintro e wx ⟨rfl, hwx⟩
        have hwx := hwx.symm
        subst hwx
        go_wp2_with fail
        refine HAT5.out.mono ?_
        rintro e w6 ⟨v6, l6, rfl, htm6, hit6, hl6, hb6⟩
        obtain ⟨A6, c6, rfl⟩ := htm6.own.slice
        have HB6 := Lib.hid (HB5.out.trans (hb6.mono HB5.out.size))
        have HS6 := Lib.hid (HS5.out.below hb6)
        have HR6 := Lib.hid (HR5.out.below hb6)
        have HTM6 := Lib.hid (htm6.base (base' := w.heap.size) HB5.out.size)
        obtain ⟨bk, hmk⟩ := HS5.out.made
        obtain ⟨xp, hxp, hrx, hap, htr6⟩ := htr.out.step (G := G5) (L := x.d) (u := ⟨A6, c6, l6⟩) hmk (by rw [HNUM.out, ← HRN.out]; exact hit6)
        obtain ⟨Ax, cx, lx⟩ := xp
        have HXP := Lib.hid hxp
        have HRX := Lib.hid hrx
        have HAP := Lib.hid hap
        have HTR6 := Lib.hid htr6
        have L6 := Lib.hid hl6
        clear htm6 hit6 hl6 hb6 hmk hxp hrx hap htr6 HAT5
        go_wp2_with (at_builtin; refine wpList_appT (base := w.heap.size) (v := .slice At ts.length ct) (ts := ts) rfl _ _ rfl rfl (HR6.out.below (below_box w6 _)) ⟨A6, c6, l6⟩ (HTM6.out.below (below_box w6 _)) w6.heap.size rfl (cell_of_row _ _ 0 _ _ _ (heap_alloc_new w6 _)) (by have := HTN.out; have := HNJ.out; have := HJL.out; omega) (Nat.le_trans HB6.out.size (below_box w6 _).size) ?_; intro v7 w7 hrt7 hg7)
        obtain ⟨A7, c7, rfl⟩ := hrt7.slice
        have hbx := below_box w6 (.cells #[.slice A6 l6.length c6] 23)
        have hrow7 := fun q hq => rowT_ge (HR6.out.below hbx).own (g := q) hq
        have HB7 := Lib.hid ((HB6.out.trans (hbx.mono HB6.out.size)).grown hg7 (Nat.le_trans HB6.out.size hbx.size) fun q hq => (hrow7 q hq).1)
        have HS7 := Lib.hid ((HS6.out.below hbx).turnT hg7 fun q hq => (hrow7 q hq).2)
        have hx7 : (ts ++ [(⟨A6, c6, l6⟩ : TX)])[n]? = some ⟨Ax, cx, lx⟩ := by
          rw [List.getElem?_append_left (by rw [HTN.out]; omega)]
          have := HXP.out
          rw [HNUM.out, Nat.add_sub_cancel] at this
          exact this
        obtain ⟨_, g7, hA7, hc7⟩ := hrt7.at_ hx7
        subst hA7
        have hc7 : w7.cell? ⟨g7, n, none⟩ = some (.slice Ax lx.length cx) := hc7
        have htx := (TreeMade.tree (A := Ax) (n := lx.length) (c := cx) (hrt7.bod _ (List.mem_of_getElem? hx7))).2
        have htu := hrt7.bod ⟨A6, c6, l6⟩ (List.mem_append_right _ (List.mem_singleton.2 rfl))
        have hcap7 : (ts ++ [(⟨A6, c6, l6⟩ : TX)]).length ≤ c7 := by
          rcases hrt7.own.2 with ⟨h, _⟩ | ⟨g', cap, cur, e, _, _, hnc, _⟩
          · cases h
          · cases e; exact hnc
        have hl7 : (ts ++ [(⟨A6, c6, l6⟩ : TX)]).length = n + 2 := by rw [List.length_append, List.length_singleton, HTN.out]
        have HAPL := Lib.hid (refapply_any lx x.d Ax x.A cx x.c w7.drew (htx.below (Below.drew (Below.refl _ _))) (small_of_right HRX.out).1 (by have := (small_of_right HRX.out).2; omega) (HDX.out.below (HB7.out.trans ((Below.drew (Below.refl w7.heap.size w7)).mono HB7.out.size))) HSX.out)
        rw [show applyT (flsX lx) (x.d.map DX.dl) = .ok (flsX l6) from HAP.out] at HAPL
        have d1 : (n : Int) < ((ts ++ [(⟨A6, c6, l6⟩ : TX)]).length : Int) := by omega
        have d2 : (n : Int) < (c7 : Int) := by omega
        have d3 : IntKind.i64.wrap ((r : Int) - 1) = (n : Int) := by rw [IntWalk.i64_in _ (by have := HRN.out; have := HNJ.out; have := HJL.out; omega)]; have := HRN.out; omega
        have hc1 := HCELL.out w7 HB7.out
        have HR7 := Lib.hid hrt7
        have HTU := Lib.hid htu
        obtain ⟨m7, hm7⟩ : ∃ m7, (ts ++ [(⟨A6, c6, l6⟩ : TX)]).length = m7 := ⟨_, rfl⟩
        have HM7 := Lib.hid hm7
        rw [hm7] at d1 ⊢
        have hjl := HJL.out
        have k1 : (j : Int) < (l.length : Int) := by omega
        clear hbx hrow7 hx7 htx htu hcap7 hl7 hrt7 hg7 hm7 hjl
        go_wp2_with fail
        refine wp_region_held_drew (S := (fun w' => w'.cell? ⟨g7, n, none⟩ = some (.slice Ax lx.length cx) ∧ w'.cell? ⟨g, o + j, none⟩ = some (.slice x.A x.d.length x.c))) (by kernel_rfl) ⟨hc7, hc1⟩ (fun hHeld => ?_)
        refine wpAnyH_take (i := 0) (v := ?va0) rfl (by kernel_rfl) (by kernel_rfl) (by kernel_rfl) (fun _ _ _ h => h) (Or.inl ⟨by rfl, ?ya0⟩) (by assumption) ?ra0
        case ya0 =>
          intro w hSw
          (try dsimp only at hSw)
          go_simp
          first | done | with_reducible rfl
        try simp only [Act.put, List.getElem_toArray, List.getElem_cons_zero, List.setIfInBounds_toArray, List.set_cons_zero, List.set_cons_succ]
        refine wpAnyH_take (i := 1) (v := ?va1) rfl (by kernel_rfl) (by kernel_rfl) (by kernel_rfl) (fun _ _ _ h => h) (Or.inl ⟨by rfl, ?ya1⟩) (by assumption) ?ra1
        case ya1 =>
          intro w hSw
          (try dsimp only at hSw)
          go_simp
          first | done | with_reducible rfl
        try simp only [Act.put, List.getElem_toArray, List.getElem_cons_zero, List.getElem_cons_succ, List.setIfInBounds_toArray, List.set_cons_zero, List.set_cons_succ]
        refine wpAnyH_take (i := 2) (v := ?va2) rfl (by kernel_rfl) (by kernel_rfl) (by kernel_rfl) (fun _ _ _ h => h) (Or.inl ⟨by rfl, ?ya2⟩) (by assumption) ?ra2
        case ya2 =>
          intro w hSw
          (try dsimp only at hSw)
          go_simp
          first | done | with_reducible rfl
        try simp only [Act.put, List.getElem_toArray, List.getElem_cons_zero, List.getElem_cons_succ, List.setIfInBounds_toArray, List.set_cons_zero, List.set_cons_succ]
        refine wpAnyH_take (i := 3) (v := ?va3) rfl (by kernel_rfl) (by kernel_rfl) (by kernel_rfl) (fun _ _ _ h => h) (Or.inl ⟨by rfl, ?ya3⟩) (by assumption) ?ra3
        case ya3 =>
          intro w hSw
          (try dsimp only at hSw)
          go_simp
          first | done | with_reducible rfl
        try simp only [Act.put, List.getElem_toArray, List.getElem_cons_zero, List.getElem_cons_succ, List.setIfInBounds_toArray, List.set_cons_zero, List.set_cons_succ]
        refine wpAnyH_take (i := 4) (v := ?va4) rfl (by kernel_rfl) (by kernel_rfl) (by kernel_rfl) (fun _ _ _ h => h) (Or.inl ⟨by rfl, ?ya4⟩) (by assumption) ?ra4
        case ya4 =>
          intro w hSw
          (try dsimp only at hSw)
          go_simp
          first | done | with_reducible rfl
        try simp only [Act.put, List.getElem_toArray, List.getElem_cons_zero, List.getElem_cons_succ, List.setIfInBounds_toArray, List.set_cons_zero, List.set_cons_succ]
        refine wpAnyH_take (i := 5) (v := ?va5) rfl (by kernel_rfl) (by kernel_rfl) (by kernel_rfl) (fun _ _ _ h => h) (Or.inl ⟨by rfl, ?ya5⟩) (by assumption) ?ra5
        case ya5 =>
          intro w hSw
          (try dsimp only at hSw)
          go_simp
          first | done | with_reducible rfl
        try simp only [Act.put, List.getElem_toArray, List.getElem_cons_zero, List.getElem_cons_succ, List.setIfInBounds_toArray, List.set_cons_zero, List.set_cons_succ]
        refine wpAnyH_take (i := 6) (v := ?va6) rfl (by kernel_rfl) (by kernel_rfl) (by kernel_rfl) (fun _ _ _ h => h) (Or.inl ⟨by rfl, ?ya6⟩) (by assumption) ?ra6
        case ya6 =>
          intro w hSw
          (try dsimp only at hSw)
          go_simp
          first | done | with_reducible rfl
        try simp only [Act.put, List.getElem_toArray, List.getElem_cons_zero, List.getElem_cons_succ, List.setIfInBounds_toArray, List.set_cons_zero, List.set_cons_succ]
        refine wpAnyH_take (i := 7) (v := ?va7) rfl (by kernel_rfl) (by kernel_rfl) (by kernel_rfl) (fun _ _ _ h => h) (Or.inl ⟨by rfl, ?ya7⟩) (by assumption) ?ra7
        case ya7 =>
          intro w hSw
          (try dsimp only at hSw)
          go_simp
          first | done | with_reducible rfl
        try simp only [Act.put, List.getElem_toArray, List.getElem_cons_zero, List.getElem_cons_succ, List.setIfInBounds_toArray, List.set_cons_zero, List.set_cons_succ]
        refine wpAnyH_take (i := 8) (v := ?va8) rfl (by kernel_rfl) (by kernel_rfl) (by kernel_rfl) (fun _ _ _ h => h) (Or.inl ⟨by rfl, ?ya8⟩) (by assumption) ?ra8
        case ya8 =>
          intro w hSw
          (try dsimp only at hSw)
          go_simp
          first | done | with_reducible rfl
        try simp only [Act.put, List.getElem_toArray, List.getElem_cons_zero, List.getElem_cons_succ, List.setIfInBounds_toArray, List.set_cons_zero, List.set_cons_succ]
        refine wpAnyH_ready (rs := [9]) (by kernel_rfl) (by simp) ?_
        refine AllReadyH.cons rfl (fun K hK => ?_) AllReadyH.nil
        go_simp
        refine HAPL.out.mono ?_
        rintro e w8 hp
        obtain ⟨A8, c8, l8, rfl, ht8, hf8, hb8'⟩ := hp
        have hb8 : Below w7.heap.size w7 w8 := (Below.drew (Below.refl w7.heap.size w7)).trans hb8'
        have HB78 := Lib.hid hb8
        have HT8 := Lib.hid ht8
        have HF8 := Lib.hid hf8
        have hc8 := (hb8.cell (p := ⟨g7, n, none⟩) (World.block_lt_of_cell? w7 (a := ⟨g7, n, none⟩) hc7)).trans hc7
        have hc9 := HCELL.out w8 (HB7.out.trans (hb8.mono HB7.out.size))
        clear ht8 hf8 hb8' hb8
        go_wp2_with fail
        refine hK.out _ _ ⟨hc8, hc9⟩ (fun hHeld => ?_)
        clear hK K
        try simp only [Act.put, List.getElem_toArray, List.getElem_cons_zero, List.getElem_cons_succ, List.setIfInBounds_toArray, List.set_cons_zero, List.set_cons_succ]
        refine wpAnyH_take (i := 10) (v := ?va10) rfl (by kernel_rfl) (by kernel_rfl) (by kernel_rfl) (fun _ _ _ h => h) (Or.inl ⟨by rfl, ?ya10⟩) (by assumption) ?ra10
        case ya10 =>
          intro w hSw
          (try dsimp only at hSw)
          go_simp
          first | done | with_reducible rfl
        try simp only [Act.put, List.getElem_toArray, List.getElem_cons_zero, List.getElem_cons_succ, List.setIfInBounds_toArray, List.set_cons_zero, List.set_cons_succ]
        refine wpAnyH_take (i := 11) (v := ?va11) rfl (by kernel_rfl) (by kernel_rfl) (by kernel_rfl) (fun _ _ _ h => h) (Or.inl ⟨by rfl, ?ya11⟩) (by assumption) ?ra11
        case ya11 =>
          intro w hSw
          (try dsimp only at hSw)
          go_simp
          first | done | with_reducible rfl
        try simp only [Act.put, List.getElem_toArray, List.getElem_cons_zero, List.getElem_cons_succ, List.setIfInBounds_toArray, List.set_cons_zero, List.set_cons_succ]
        refine wpAnyH_take (i := 12) (v := ?va12) rfl (by kernel_rfl) (by kernel_rfl) (by kernel_rfl) (fun _ _ _ h => h) (Or.inl ⟨by rfl, ?ya12⟩) (by assumption) ?ra12
        case ya12 =>
          intro w hSw
          (try dsimp only at hSw)
          go_simp
          first | done | with_reducible rfl
        try simp only [Act.put, List.getElem_toArray, List.getElem_cons_zero, List.getElem_cons_succ, List.setIfInBounds_toArray, List.set_cons_zero, List.set_cons_succ]
        refine wpAnyH_take (i := 13) (v := ?va13) rfl (by kernel_rfl) (by kernel_rfl) (by kernel_rfl) (fun _ _ _ h => h) (Or.inl ⟨by rfl, ?ya13⟩) (by assumption) ?ra13
        case ya13 =>
          intro w hSw
          (try dsimp only at hSw)
          go_simp
          first | done | with_reducible rfl
        try simp only [Act.put, List.getElem_toArray, List.getElem_cons_zero, List.getElem_cons_succ, List.setIfInBounds_toArray, List.set_cons_zero, List.set_cons_succ]
        refine wpAnyH_take (i := 14) (v := ?va14) rfl (by kernel_rfl) (by kernel_rfl) (by kernel_rfl) (fun _ _ _ h => h) (Or.inl ⟨by rfl, ?ya14⟩) (by assumption) ?ra14
        case ya14 =>
          intro w hSw
          (try dsimp only at hSw)
          go_simp
          first | done | with_reducible rfl
        try simp only [Act.put, List.getElem_toArray, List.getElem_cons_zero, List.getElem_cons_succ, List.setIfInBounds_toArray, List.set_cons_zero, List.set_cons_succ]
        refine wpAnyH_done (by kernel_rfl) ?_ _
        have HSA := Lib.hid (refsameG_any l6 l8 A6 A8 c6 c8 w8 ((HTU.out.below HB78.out).tree (A := A6) (n := l6.length) (c := c6)).2 HT8.out L6.out (by
          have h1 := congrArg List.length HF8.out
          have h2 := L6.out
          simp only [flsX, List.length_map] at h1
          omega))
        rw [decide_eq_true HF8.out.symm] at HSA
        go_wp2_with fail
        refine HSA.out.mono ?_
        rintro e w9 ⟨rfl, hb9⟩
        have HB79 := Lib.hid (HB78.out.trans (hb9.mono HB78.out.size))
        clear hb9
        go_wp2_with fail
        go_roundw
        case rel => exact ⟨j + 1, n + 1, (G5, x.d) :: H, ts ++ [⟨A6, c6, l6⟩], by omega, by have := HNJ.out; omega, by go_num, HS7.out.below HB79.out, (by have := HR7.out.below HB79.out; rwa [HM7.out] at this), HTR6, Lib.hid (by rw [List.getElem?_append_left (by rw [HTN.out]; omega)]; exact hy0.out), HB7.out.trans (HB79.out.mono HB7.out.size)⟩
        case measure => simp [intOf]; omega
    · obtain rfl : j = l.length := by omega
      clear h1 hj
      have hn25 : n ≤ 25 := by omega
      have hcapt : ts.length ≤ ct := by
        rcases HR.out.own.2 with ⟨h, h0⟩ | ⟨g', cap, cur, e, _, _, hnc, _⟩
        · omega
        · cases e; exact hnc
      have HTR := htr
      have HY0 := hy0
      clear htr hy0
      have HTN := Lib.hid htn
      clear htn
      obtain ⟨wc, hwc⟩ : ∃ wc, wc = wr := ⟨_, rfl⟩
      subst hwc
      go_wp2_with fail
      go_loopw [18] (fun kv wr => ∃ (k : Nat), k ≤ n + 1 ∧ kv = .int .i64 k ∧ Hid (Below wc.heap.size wc wr)) (fun kv _ => n + 1 - (intOf kv).toNat)
      case atStart => exact ⟨0, Nat.zero_le _, rfl, Below.refl _ _⟩
      case round =>
        obtain ⟨k, hk, rfl, HBK⟩ := hrel
        by_cases m1 : k < n + 1
        · obtain ⟨⟨Ak, ck, lk⟩, hxk⟩ : ∃ x, ts[k]? = some x := ⟨_, List.getElem?_eq_getElem (by have := HTN.out; omega)⟩
          have m2 : (k : Int) < (ts.length : Int) := by have := HTN.out; omega
          have m3 : (k : Int) < (ct : Int) := by have := HTN.out; omega
          obtain ⟨_, g7, hA7, _⟩ := HR.out.at_ hxk
          subst hA7
          have HAT := Lib.hid ((HS.out.below HBK.out).atR (r := k) (by omega) (by omega))
          have HXK := Lib.hid hxk
          clear hxk
          go_wp2_with fail
          refine HAT.out.mono ?_
          rintro e w6 ⟨v6, l6, rfl, htm6, hit6, hl6, hb6⟩
          obtain ⟨A6, c6, rfl⟩ := htm6.own.slice
          have hb6' := HBK.out.trans (hb6.mono HBK.out.size)
          have hr6 := HR.out.below hb6'
          obtain ⟨_, g8, hA8, hc8⟩ := hr6.at_ HXK.out
          cases hA8
          have hc8 : w6.cell? ⟨g7, k, none⟩ = some (.slice Ak lk.length ck) := hc8
          have he : flsX l6 = flsX lk := isTree_unique hit6 (HTR.out.each k _ HXK.out).1 fun _ => rfl
          have htk := (TreeMade.tree (A := Ak) (n := lk.length) (c := ck) (hr6.bod _ (List.mem_of_getElem? HXK.out))).2
          have hll : lk.length ≤ 1000000000 := by
            have h1 := congrArg List.length he
            simp only [flsX, List.length_map] at h1
            omega
          have HSA := Lib.hid (refsameG_any l6 lk A6 Ak c6 ck w6 (TreeMade.tree htm6).2 htk hl6 hll)
          rw [decide_eq_true he] at HSA
          have HB6 := Lib.hid hb6'
          clear htm6 hit6 hl6 hb6 hb6' hr6 he htk hll HAT
          go_wp2_with fail
          refine HSA.out.mono ?_
          rintro e w9 ⟨rfl, hb9⟩
          have HB9 := Lib.hid (HB6.out.trans (hb9.mono HB6.out.size))
          clear hb9
          go_wp2_with fail
          go_roundw
          case rel => exact ⟨k + 1, by omega, by go_num, HB9⟩
          case measure => simp [intOf]; omega
        · obtain rfl : k = n + 1 := by omega
          have m2 : ¬ (((n + 1 : Nat) : Int) < (ts.length : Int)) := by have := HTN.out; omega
          have hr6 := HR.out.below HBK.out
          have htf := (TreeMade.tree (A := Af) (n := lf.length) (c := cf) (hr6.bod _ (List.mem_of_getElem? HY0.out))).2
          have he : flsX lf = flsX t := by
            obtain ⟨y, hy, e⟩ := HTR.out.first
            have := Option.some.inj (HY0.out.symm.trans hy)
            rw [← e, ← this]
          have HBW := Lib.hid (HBR.out.trans (HBK.out.mono HBR.out.size))
          have hll : t.length ≤ 1000000000 := by
            have h1 := congrArg List.length he
            have h2 := LF.out
            simp only [flsX, List.length_map] at h1
            omega
          have HSA := Lib.hid (refsameG_any lf t Af A cf c wr htf (HT.out.below HBW.out) LF.out hll)
          rw [decide_eq_true he] at HSA
          clear hr6 htf he hll
          obtain ⟨n1, hn1⟩ : ∃ n1, n + 1 = n1 := ⟨_, rfl⟩
          rw [hn1] at m2 ⊢
          clear hn1
          go_wp2_with fail
          refine HSA.out.mono ?_
          rintro e w8 ⟨rfl, hb8⟩
          have HB8 := Lib.hid (HBW.out.trans (hb8.mono HBW.out.size))
          clear hb8
          go_wp2_with fail
          refine (HKN.out w8 HB8.out).mono ?_
          rintro e w9 ⟨rfl, hb9⟩
          go_wp2_with fail
          go_ret
          exact ⟨rfl, HB8.out.trans (hb9.mono HB8.out.size)⟩
end Go.Proofs.YtlnpabpdgjganaaGreatDoor
