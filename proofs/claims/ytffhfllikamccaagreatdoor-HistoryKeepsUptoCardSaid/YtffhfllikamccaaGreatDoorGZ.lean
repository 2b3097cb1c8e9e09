/-
  What a history of the same changes tells: the same. No program is named here. · A history in memory and what it was made of; what its calls answer then. · Two histories of the same changes, side by side in memory. · What a commit makes of the whole tree, though it works on the names alone. No program is named here. · A row of trees in memory; the trees of a history's revisions.
-/
import Derived.Test.YtffhfllikamccaaGreatDoorGPlain
import Derived.Test.YtffhfllikamccaaGreatDoorGNew
import Derived.Test.YtffhfllikamccaaGreatDoorGS
import Derived.Test.YtffhfllikamccaaGreatDoorGCommit
import Derived.Test.YtffhfllikamccaaGreatDoorGSmall
namespace Go.Proofs.YtffhfllikamccaaGreatDoor
open Go Go.RowKit Go.Shelf Go.Proofs Go.ChangeMaps Go.Maps Go.WideMaps

/-- A record without the places of its bytes. -/
def RX.t (x : RX) : Nat × Int × Bs := (x.r, x.k, x.b)
def chainD (r : Nat) (D : List Dl) (s : Bs) : List (Nat × Int × Bs) := ((D.filter fun d => d.p == s).map fun d => (r, d.k, d.b)).reverse
theorem chainL_t (r : Nat) (L : List DX) (s : Bs) : (chainL r L s).map RX.t = chainD r (L.map DX.dl) s := by
  unfold chainL chainD
  rw [List.map_reverse, List.map_map, List.filter_map, List.map_map]
  rfl
def valT (c : List (Nat × Int × Bs)) (r : Nat) : Option Bs := match c.dropWhile fun x => decide (r < x.1) with
  | [] => none
  | x :: _ => if x.2.1 = 3 then none else some x.2.2
theorem valC_t (r : Nat) : ∀ c : List RX, valC c r = valT (c.map RX.t) r
  | [] => rfl
  | x :: c => by
    by_cases h : r < x.r
    · have e1 : valC (x :: c) r = valC c r := by unfold valC; rw [dropC_late h]
      have e2 : valT ((x :: c).map RX.t) r = valT (c.map RX.t) r := by
        unfold valT
        rw [List.map_cons, List.dropWhile_cons, if_pos (by exact decide_eq_true h)]
      rw [e1, e2, valC_t r c]
    · unfold valC valT
      rw [dropC_here h, List.map_cons, List.dropWhile_cons, if_neg (by rw [decide_eq_true_eq]; exact h)]
      rfl
theorem SameH.len : ∀ {H H' : List (Nat × List DX)}, SameH H H' → H.length = H'.length
  | [], [], _ => rfl
  | (_, _) :: _, (_, _) :: _, h => by rw [List.length_cons, List.length_cons, SameH.len h.2]
theorem SameH.chains : ∀ {H H' : List (Nat × List DX)}, SameH H H' → ∀ s, (chain H s).map RX.t = (chain H' s).map RX.t
  | [], [], _, _ => rfl
  | (_, L) :: H, (_, L') :: H', h, s => by
    show (chainL H.length L s ++ chain H s).map RX.t = (chainL H'.length L' s ++ chain H' s).map RX.t
    rw [List.map_append, List.map_append, chainL_t, chainL_t, h.1, SameH.chains h.2 s, SameH.len h.2]
theorem SameH.val {H H' : List (Nat × List DX)} (h : SameH H H') (r : Nat) (s : Bs) : valR H r s = valR H' r s := by
  unfold valR
  rw [valC_t, valC_t, h.chains s]
theorem valR_behind {r : Nat} (s : Bs) : ∀ (A B : List (Nat × List DX)), r < B.length → valR (A ++ B) r s = valR B r s
  | [], _, _ => rfl
  | (G, L) :: A, B, h => by
    rw [List.cons_append, valR_later (by rw [List.length_append]; omega), valR_behind s A B h]
theorem valR_drop {H : List (Nat × List DX)} {r j : Nat} (s : Bs) (h : r < (H.drop j).length) : valR H r s = valR (H.drop j) r s := by
  have := valR_behind (r := r) s (H.take j) (H.drop j) h
  rwa [List.take_append_drop] at this

/-- The changes that lay a tree. -/
def laysT (t : List Fl) : List Dl := t.map fun y => ⟨1, y.1, y.2⟩
/-- The revisions H of the first tree t, the names being b at last. -/
def Made (t : List Fl) : List (Nat × List DX) → List Fl → Prop
  | [], _ => False
  | [(_, l)], b => l.map DX.dl = laysT t ∧ b = bareT t
  | (_, L) :: x :: H, b => ∃ b0, Made t (x :: H) b0 ∧ L ≠ [] ∧ ∃ f, applyT b0 (L.map DX.dl) = .ok f ∧ b = bareT f
theorem Made.unique {t : List Fl} : ∀ {H : List (Nat × List DX)} {b b' : List Fl}, Made t H b → Made t H b' → b = b'
  | [], _, _, h, _ => h.elim
  | [_], _, _, h, h' => h.2.trans h'.2.symm
  | (_, _) :: _ :: _, _, _, ⟨b0, h1, _, f, h2, h3⟩, ⟨b1, h1', _, f', h2', h3'⟩ => by
    have e := Made.unique h1 h1'
    subst e
    rw [h2] at h2'
    cases h2'
    exact h3.trans h3'.symm
theorem Made.next {t : List Fl} {G : Nat} {L : List DX} {H : List (Nat × List DX)} {b : List Fl} (hH : H ≠ []) (h : Made t ((G, L) :: H) b) : ∃ b0, Made t H b0 ∧ L ≠ [] ∧ ∃ f, applyT b0 (L.map DX.dl) = .ok f ∧ b = bareT f := by
  cases H with
  | nil => exact absurd rfl hH
  | cons x H => exact h
theorem Made.add {t : List Fl} {G : Nat} {L : List DX} {H : List (Nat × List DX)} {b0 f : List Fl} (h : Made t H b0) (hL : L ≠ []) (hf : applyT b0 (L.map DX.dl) = .ok f) : Made t ((G, L) :: H) (bareT f) := by
  cases H with
  | nil => exact h.elim
  | cons x H => exact ⟨b0, h, hL, f, hf, rfl⟩
theorem Made.drop {t : List Fl} : ∀ {H : List (Nat × List DX)} {b : List Fl}, Made t H b → ∀ j, j < H.length → ∃ b0, Made t (H.drop j) b0
  | _, b, h, 0, _ => ⟨b, h⟩
  | (_, _) :: H, _, h, j + 1, hj => by
    obtain ⟨b0, h1, _⟩ := h.next (fun e => by subst e; simp at hj)
    exact Made.drop h1 j (by simpa using hj)
theorem Made.first {t : List Fl} : ∀ {H : List (Nat × List DX)} {b : List Fl}, Made t H b → ∃ G l, H.drop (H.length - 1) = [(G, l)] ∧ l.map DX.dl = laysT t
  | [], _, h => h.elim
  | [(G, l)], _, h => ⟨G, l, rfl, h.1⟩
  | (_, _) :: x :: H, _, h => by
    obtain ⟨b0, h1, _⟩ := h.next (by simp)
    obtain ⟨G, l, h2, h3⟩ := Made.first h1
    exact ⟨G, l, by simpa using h2, h3⟩

/-- The first revision is the tree that it was made of. -/
theorem first_is {t : List Fl} (ht : Rises t) {G : Nat} {l : List DX} (hl : l.map DX.dl = laysT t) : IsTree [(G, l)] 0 t := by
  refine ⟨ht, fun s b => ?_⟩
  have e : valR [(G, l)] 0 s = valT (chainD 0 (laysT t) s) 0 := by
    unfold valR
    rw [valC_t]
    show valT ((chainL 0 l s ++ []).map RX.t) 0 = _
    rw [List.append_nil, chainL_t, hl]
  have hmem : ∀ d, d ∈ (laysT t).filter (fun d => d.p == s) ↔ ∃ b', (s, b') ∈ t ∧ d = ⟨1, s, b'⟩ := fun d => by
    rw [List.mem_filter]
    unfold laysT
    rw [List.mem_map]
    constructor
    · rintro ⟨⟨⟨p, b'⟩, h1, rfl⟩, h2⟩
      have h2 : p = s := by simpa using h2
      subst h2
      exact ⟨b', h1, rfl⟩
    · rintro ⟨b', h1, rfl⟩
      exact ⟨⟨(s, b'), h1, rfl⟩, by simp⟩
  rw [e]
  unfold chainD
  cases hr : (((laysT t).filter fun d => d.p == s).map fun d => (0, d.k, d.b)).reverse with
  | nil =>
    have h0 : (laysT t).filter (fun d => d.p == s) = [] := by simpa using hr
    constructor
    · intro hm
      have := (hmem ⟨1, s, b⟩).2 ⟨b, hm, rfl⟩
      rw [h0] at this
      cases this
    · intro h; cases h
  | cons x c =>
    have hx : x ∈ (((laysT t).filter fun d => d.p == s).map fun d => ((0 : Nat), d.k, d.b)).reverse := by rw [hr]; simp
    rw [List.mem_reverse, List.mem_map] at hx
    obtain ⟨d, hd, rfl⟩ := hx
    obtain ⟨b', hb', rfl⟩ := (hmem d).1 hd
    show _ ↔ (if (1 : Int) = 3 then none else some b') = some b
    rw [if_neg (by decide)]
    constructor
    · intro hm
      have := rises_unique ht hm hb' rfl
      cases this
      rfl
    · intro h; cases h; exact hb'
theorem first_eq {t f : List Fl} {H : List (Nat × List DX)} {b : List Fl} (ht : Rises t) (hm : Made t H b) (hf : IsTree H 0 f) : f = t := by
  obtain ⟨G, l, h1, h2⟩ := hm.first
  refine isTree_unique hf (first_is (G := G) ht h2) fun s => ?_
  rw [← h1]
  exact valR_drop s (by rw [h1]; simp)
end Go.Proofs.YtffhfllikamccaaGreatDoor
namespace Go.Proofs.YtffhfllikamccaaGreatDoor
open Go Go.RowKit Go.Shelf Go.Proofs Go.ChangeMaps Go.Maps Go.WideMaps

theorem HistAt.rebase {base base' : Nat} {w : World} {hb n : Nat} {nm : List FX} {M : Bs → Nat} {nv cv : Value} {mb k : Nat} {D : DataW Unit} {H : List (Nat × List DX)} (h : HistAt base w hb n nm M nv cv mb k D H) (hb' : base' ≤ base) : HistAt base' w hb n nm M nv cv mb k D H := by
  refine ⟨h.heap, h.names, h.right, h.bare, ⟨h.commits.1, ?_⟩, h.num, h.full, h.sm, h.map, h.room, h.revs, h.le, Nat.le_trans hb' h.lb, Nat.le_trans hb' h.lm⟩
  rcases h.commits.2 with h2 | ⟨g, cap, cur, h3, h4, h5⟩
  · exact .inl h2
  · exact .inr ⟨g, cap, cur, h3, Nat.le_trans hb' h4, h5⟩

/-- Some history of n revisions behind the first, H, of the first tree t. -/
def HSome (base : Nat) (w : World) (hb n : Nat) (t : List Fl) (H : List (Nat × List DX)) : Prop := ∃ nm M nv cv mb k D, HistAt base w hb n nm M nv cv mb k D H ∧ Made t H (flsX nm)
theorem HSome.below {base : Nat} {w w' : World} {hb n : Nat} {t : List Fl} {H : List (Nat × List DX)} (h : HSome base w hb n t H) (hb2 : Below w.heap.size w w') : HSome base w' hb n t H := by
  obtain ⟨nm, M, nv, cv, mb, k, D, h, hm⟩ := h
  exact ⟨nm, M, nv, cv, mb, k, D, h.below hb2, hm⟩
theorem HSome.num {base : Nat} {w : World} {hb n : Nat} {t : List Fl} {H : List (Nat × List DX)} (h : HSome base w hb n t H) : H.length = n + 1 := by
  obtain ⟨nm, M, nv, cv, mb, k, D, h, hm⟩ := h
  exact h.num
theorem HSome.made {base : Nat} {w : World} {hb n : Nat} {t : List Fl} {H : List (Nat × List DX)} (h : HSome base w hb n t H) : ∃ b, Made t H b := by
  obtain ⟨nm, M, nv, cv, mb, k, D, h, hm⟩ := h
  exact ⟨_, hm⟩
theorem HSome.sm {base : Nat} {w : World} {hb n : Nat} {t : List Fl} {H : List (Nat × List DX)} (h : HSome base w hb n t H) : ∀ x ∈ H, SmallD x.2 := by
  obtain ⟨nm, M, nv, cv, mb, k, D, h, hm⟩ := h
  exact h.sm
theorem HSome.lb {base : Nat} {w : World} {hb n : Nat} {t : List Fl} {H : List (Nat × List DX)} (h : HSome base w hb n t H) : base ≤ hb ∧ ∃ cs, w.heap[hb]? = some (.cells cs 74 (0, 0)) := by
  obtain ⟨nm, M, nv, cv, mb, k, D, h, hm⟩ := h
  exact ⟨h.lb, _, h.heap⟩
theorem HSome.head {base : Nat} {w : World} {hb n : Nat} {t : List Fl} {H : List (Nat × List DX)} (h : HSome base w hb n t H) :
    Calls Tryz.prog 11 #[.pointer (some ⟨hb, 0, none⟩)] w fun e w' => e = .returned (.int .i64 n) ∧ w' = w := by
  obtain ⟨nm, M, nv, cv, mb, k, D, h, hm⟩ := h
  obtain ⟨A, c, rfl, _⟩ := h.commit_slice
  exact hhead_any hb A n c w (cell_of_row w hb 1 _ _ _ h.heap)
theorem HSome.atR {base : Nat} {w : World} {hb n : Nat} {t : List Fl} {H : List (Nat × List DX)} (h : HSome base w hb n t H) {r : Nat} (hr : r ≤ n) (hn : n ≤ 99999) :
    Calls Tryz.prog 16 #[.pointer (some ⟨hb, 0, none⟩), .int .i64 r] w (AtPost H r w) := by
  obtain ⟨nm, M, nv, cv, mb, k, D, h, hm⟩ := h
  exact hat_any h hr hn
theorem HSome.deltasR {base : Nat} {w : World} {hb n : Nat} {t : List Fl} {H : List (Nat × List DX)} (h : HSome base w hb n t H) {r : Nat} (h1 : 1 ≤ r) (hr : r ≤ n) (hn : n ≤ 100000) {G : Nat} {L : List DX} (hG : H[n - r]? = some (G, L)) :
    Calls Tryz.prog 18 #[.pointer (some ⟨hb, 0, none⟩), .int .i64 r] w (DeltasPost L w) := by
  obtain ⟨nm, M, nv, cv, mb, k, D, h, hm⟩ := h
  exact hdeltas_any h h1 hr hn hG
def CommitS (w0 : World) (hb n : Nat) (t : List Fl) (H : List (Nat × List DX)) (L : List DX) (w : World) (e : Ending) (w' : World) : Prop :=
  (∃ q : Int, q ≠ 0 ∧ (L = [] ∨ ∃ b, Made t H b ∧ applyT b (L.map DX.dl) = .error q) ∧ e = .returned (.tuple #[.int .i64 0, .int .i64 q]) ∧ Below w.heap.size w w') ∨
  (∃ G, e = .returned (.tuple #[.int .i64 ((n + 1 : Nat) : Int), .int .i64 0]) ∧ HSome w0.heap.size w' hb (n + 1) t ((G, L) :: H) ∧ Below w0.heap.size w w' ∧ KeepR w w')
theorem HSome.commit {w0 w : World} {hb n : Nat} {t : List Fl} {H : List (Nat × List DX)} (h : HSome w0.heap.size w hb n t H) (h0 : Below w0.heap.size w0 w) (hn : n < 100000) (L : List DX) (B : Option Addr) (d : Nat) (hd : DelsKeep w hb B d L) (hs : SmallD L) (hm : MaxOk w0) :
    Calls Tryz.prog 9 #[.pointer (some ⟨hb, 0, none⟩), .slice B L.length d] w (CommitS w0 hb n t H L w) := by
  obtain ⟨nm, M, nv, cv, mb, k, D, h, hmd⟩ := h
  refine (hcommit_any w0 hb n nm M nv cv mb k D H L B d w h h0 hn hd hs hm).mono ?_
  rintro e w' (⟨q, hq, hap, he, hb2⟩ | ⟨nm', nv', cv', mb', k', D', G, hne, ⟨f, hf, hfn⟩, he, hH, hb2, hk, -⟩)
  · exact .inl ⟨q, hq, hap.imp id fun h => ⟨_, hmd, h⟩, he, hb2⟩
  · exact .inr ⟨G, he, ⟨nm', _, nv', cv', mb', k', D', hH, by rw [hfn]; exact hmd.add hne hf⟩, hb2, hk⟩

def NewS (t : List FX) (w : World) (e : Ending) (w' : World) : Prop :=
  if rightT (flsX t) then ∃ hb G l, e = .returned (.tuple #[.pointer (some ⟨hb, 0, none⟩), .int .i64 0]) ∧ HSome w.heap.size w' hb 0 (flsX t) [(G, l)] ∧ Below w.heap.size w w'
  else e = .returned (.tuple #[.pointer none, .int .i64 2]) ∧ Below w.heap.size w w'
theorem hnewS_any (t : List FX) (A : Option Addr) (c : Nat) (w : World) (h : TreeAt w A c t) (hs : ∀ x ∈ t, x.p.size ≤ 1000000) (hm : MaxOk w) :
    Calls Tryz.prog 7 #[.slice A t.length c] w (NewS t w) := by
  refine (hnew_any t A c w h hs hm).mono fun e w' hp => ?_
  unfold NewPost at hp
  unfold NewS
  cases hr : rightT (flsX t) with
  | false => rw [if_neg (by rw [hr]; decide)] at hp; rw [if_neg (by decide)]; exact hp
  | true =>
    rw [if_pos hr] at hp
    rw [if_pos rfl]
    obtain ⟨hb, nv, cv, mb, k, D, G, l, he, hH, hl, hb2⟩ := hp
    refine ⟨hb, G, l, he, ⟨_, _, nv, cv, mb, k, D, hH, ?_, bareX_fls t⟩, hb2⟩
    rw [hl]
    unfold diffB
    rw [show rightT (flsX []) = true from rfl, hr]
    exact diffT_nil (flsX t)

/-- What the second history is behind r revisions: it was made of the same changes. -/
def Twin (H K : List (Nat × List DX)) (r : Nat) : Prop := SameH K (H.drop (H.length - 1 - r))
theorem hrefhead_any (w : World) : Calls Tryz.prog 12 #[.agg #[.slice none 0 0, .slice none 0 0]] w fun e w' => e = .returned (.int .i64 (-1)) ∧ Below w.heap.size w w' := by
  go_enter Tryz.func12, Tryz.ntmps12
  go_wp2_with fail
  go_ret
  exact ⟨rfl, below_box w _⟩
end Go.Proofs.YtffhfllikamccaaGreatDoor
namespace Go.Proofs.YtffhfllikamccaaGreatDoor
open Go Go.RowKit Go.Shelf Go.Proofs Go.ChangeMaps Go.Maps Go.WideMaps

theorem small_delsG {t : List FX} {l : List LX} (h : hsmallL t l = true) {x : LX} (hx : x ∈ l) : SmallD x.d := by
  unfold hsmallL at h
  simp only [Bool.and_eq_true, decide_eq_true_eq] at h
  have h1 := longLN_mem hx
  have h2 := longDN_len x.d
  refine ⟨by omega, fun y hy => ?_⟩
  have h3 := longDN_mem hy
  omega
theorem small_treeG {t : List FX} {l : List LX} (h : hsmallL t l = true) : ∀ x ∈ t, x.p.size ≤ 1000000 := fun x hx => by
  unfold hsmallL at h
  simp only [Bool.and_eq_true, decide_eq_true_eq] at h
  obtain ⟨k, hk⟩ := List.getElem?_of_mem hx
  have h1 := longN_snoc hk
  have h2 : longN (t.take (k + 1)) ≤ longN t := by
    have e : longN t = longN (t.take (k + 1)) + longN (t.drop (k + 1)) := by
      unfold longN
      rw [← List.sum_append, ← List.map_append, List.take_append_drop]
    omega
  omega
theorem sizes_of {t f : List FX} (h : flsX f = flsX t) (hs : ∀ x ∈ t, x.p.size ≤ 1000000) : ∀ x ∈ f, x.p.size ≤ 1000000 := fun x hx => by
  have h1 : x.fl ∈ flsX t := by rw [← h]; exact List.mem_map_of_mem hx
  obtain ⟨y, hy, e⟩ := List.mem_map.1 h1
  have e2 : y.p.data.toList = x.p.data.toList := congrArg Prod.fst e
  have e3 : ∀ q : ByteArray, q.data.toList.length = q.size := fun q => by rw [Array.length_toList]; rfl
  have := hs y hy
  rw [← e3, e2, e3] at this
  exact this
theorem SmallD.same {l L : List DX} (h : l.map DX.dl = L.map DX.dl) (hs : SmallD L) : SmallD l := by
  refine ⟨by have := congrArg List.length h; simp at this; have := hs.1; omega, fun x hx => ?_⟩
  have h1 : x.dl ∈ L.map DX.dl := by rw [← h]; exact List.mem_map_of_mem hx
  obtain ⟨y, hy, e⟩ := List.mem_map.1 h1
  have e2 : y.p.data.toList = x.p.data.toList := congrArg Dl.p e
  have e4 : y.b = x.b := congrArg Dl.b e
  have e3 : ∀ q : ByteArray, q.data.toList.length = q.size := fun q => by rw [Array.length_toList]; rfl
  have := hs.2 y hy
  rw [← e3, e2, e3, e4] at this
  exact this
theorem DelsKeep.own {base : Nat} {w : World} {hb : Nat} {A : Option Addr} {n c : Nat} {ld : List DX} (h : DeltasAt base w (.slice A n c) ld) (hh : ∃ cs, w.heap[hb]? = some (.cells cs 74 (0, 0))) : DelsKeep w hb A c ld := fun w' _ hq => by
  obtain ⟨cs, hh⟩ := hh
  obtain ⟨A2, c2, e, hd⟩ := h.dels
  cases e
  refine hd.behind (fun g o e hl => hq g hl fun e2 => ?_) (fun x hx => ((h.bod x hx).keep fun g cur hg => hq g (Array.getElem?_eq_some_iff.1 hg).1 fun e2 => ?_).at_)
  · subst e2 e
    rcases h.own.2 with ⟨h0, _⟩ | ⟨g', cap, cur, h0, _, hg, _⟩
    · cases h0
    · cases h0; rw [hg] at hh; cases hh
  · subst e2
    rw [hg] at hh; cases hh
theorem Made.same {t : List Fl} : ∀ {H K : List (Nat × List DX)} {b : List Fl}, SameH K H → Made t H b → Made t K b
  | [], _, _, _, h => h.elim
  | [(_, l)], [(_, l')], _, hs, h => ⟨by rw [hs.1]; exact h.1, h.2⟩
  | (_, L) :: x :: H, (_, L') :: y :: K, b, hs, h => by
    obtain ⟨b0, h1, h2, f, h3, h4⟩ := h
    refine ⟨b0, Made.same hs.2 h1, fun e => h2 ?_, f, by rw [hs.1]; exact h3, h4⟩
    have := hs.1
    rw [e] at this
    simpa using this.symm
  | [_], [], _, hs, _ => hs.elim
  | [_], _ :: _ :: _, _, hs, _ => hs.2.elim
  | _ :: _ :: _, [], _, hs, _ => hs.elim
  | _ :: _ :: _, [_], _, hs, _ => hs.2.elim

/-- The changes of one more revision, committed again, are taken. -/
theorem again_ok {t : List Fl} {H K : List (Nat × List DX)} {b : List Fl} {j : Nat} {G : Nat} {L ld : List DX} (hm : Made t H b) (hj : j + 1 < H.length) (hG : H[j]? = some (G, L)) (hs : SameH K (H.drop (j + 1))) (hl : ld.map DX.dl = L.map DX.dl) {q : Int}
    (h : ld = [] ∨ ∃ b, Made t K b ∧ applyT b (ld.map DX.dl) = .error q) : False := by
  obtain ⟨b1, h1⟩ := hm.drop j (by omega)
  rw [List.drop_eq_getElem_cons (by omega), (List.getElem?_eq_some_iff.1 hG).2] at h1
  obtain ⟨b0, h2, h3, f, h4, _⟩ := h1.next (fun e => by have := congrArg List.length e; rw [List.length_drop, List.length_nil] at this; omega)
  rcases h with h | ⟨b2, h5, h6⟩
  · subst h
    have : L = [] := by simpa using hl.symm
    exact h3 this
  · have e := Made.unique h5 (h2.same hs)
    subst e
    rw [hl, h4] at h6
    cases h6
theorem again_ne {t : List Fl} {H : List (Nat × List DX)} {b : List Fl} {j : Nat} {G : Nat} {L ld : List DX} (hm : Made t H b) (hj : j + 1 < H.length) (hG : H[j]? = some (G, L)) (hl : ld.map DX.dl = L.map DX.dl) : 0 < ld.length := by
  obtain ⟨b1, h1⟩ := hm.drop j (by omega)
  rw [List.drop_eq_getElem_cons (by omega), (List.getElem?_eq_some_iff.1 hG).2] at h1
  obtain ⟨b0, h2, h3, _⟩ := h1.next (fun e => by have := congrArg List.length e; rw [List.length_drop, List.length_nil] at this; omega)
  have e := congrArg List.length hl
  simp at e
  rw [e]
  exact List.length_pos_iff.2 h3
theorem again_same {H K : List (Nat × List DX)} {j : Nat} {G G' : Nat} {L ld : List DX} (hj : j < H.length) (hG : H[j]? = some (G, L)) (hs : SameH K (H.drop (j + 1))) (hl : ld.map DX.dl = L.map DX.dl) : SameH ((G', ld) :: K) (H.drop j) := by
  rw [List.drop_eq_getElem_cons hj, (List.getElem?_eq_some_iff.1 hG).2]
  exact ⟨hl, hs⟩
theorem again_tree {H K : List (Nat × List DX)} {r j : Nat} {a b : List Fl} (hr : r < (H.drop j).length) (hs : SameH K (H.drop j)) (ha : IsTree H r a) (hb : IsTree K r b) : a = b :=
  isTree_unique ha hb fun s => by rw [valR_drop s hr, hs.val]
end Go.Proofs.YtffhfllikamccaaGreatDoor
namespace Go.Proofs.YtffhfllikamccaaGreatDoor
open Go Go.RowKit Go.Shelf Go.Proofs Go.ChangeMaps Go.Maps Go.WideMaps

/-- The same paths; a body is the same, or not too long. -/
def Like : List Fl → List Fl → Prop
  | [], [] => True
  | x :: b, y :: t => (x.1 = y.1 ∧ (x.2 = y.2 ∨ y.2.length ≤ 65536)) ∧ Like b t
  | _, _ => False
theorem Like.has (s : Bs) : ∀ {b t : List Fl}, Like b t → hasT b s = hasT t s
  | [], [], _ => rfl
  | x :: b, y :: t, h => by
    have ih := Like.has s h.2
    unfold hasT at ih ⊢
    rw [List.any_cons, List.any_cons, ih, h.1.1]
theorem Like.filt (s : Bs) : ∀ {b t : List Fl}, Like b t → Like (dropT b s) (dropT t s)
  | [], [], _ => trivial
  | x :: b, y :: t, h => by
    have ih := Like.filt s h.2
    unfold dropT at ih ⊢
    rw [List.filter_cons, List.filter_cons, h.1.1]
    split
    · exact ⟨h.1, ih⟩
    · exact ih
theorem Like.ins (f : Fl) : ∀ {b t : List Fl}, Like b t → Like (insT b f) (insT t f)
  | [], [], _ => ⟨⟨rfl, .inl rfl⟩, trivial⟩
  | x :: b, y :: t, h => by
    have ih := Like.ins f h.2
    unfold insT at ih ⊢
    rw [List.takeWhile_cons, List.takeWhile_cons, List.dropWhile_cons, List.dropWhile_cons, h.1.1]
    split
    · exact ⟨h.1, ih⟩
    · exact ⟨⟨rfl, .inl rfl⟩, h⟩
theorem Like.ch {b t : List Fl} (h : Like b t) (d : Dl) : Like (chT b d) (chT t d) := by
  unfold chT
  split
  · exact h.filt _
  · exact (h.filt _).ins _
theorem Like.ref {b t : List Fl} (h : Like b t) (d : Dl) : refT b d = refT t d := by
  unfold refT
  rw [h.has]
theorem Like.steps : ∀ (D : List Dl) {b t f : List Fl}, Like b t → stepsT b D = .ok f → ∃ f1, stepsT t D = .ok f1 ∧ Like f f1
  | [], b, t, f, h, e => by
    cases e
    exact ⟨t, rfl, h⟩
  | d :: D, b, t, f, h, e => by
    unfold stepsT at e ⊢
    rw [stepT_ref] at e ⊢
    rw [← h.ref]
    by_cases h0 : refT b d = 0
    · rw [if_pos h0] at e ⊢
      exact Like.steps D (h.ch d) e
    · rw [if_neg h0] at e
      cases e
theorem Like.bare : ∀ {b t : List Fl}, Like b t → bareT b = bareT t
  | [], [], _ => rfl
  | x :: b, y :: t, h => by
    have ih := Like.bare h.2
    unfold bareT at ih ⊢
    rw [List.map_cons, List.map_cons, ih, h.1.1]
theorem Like.of : ∀ {t : List Fl}, (∀ x ∈ t, x.2.length ≤ 65536) → Like (bareT t) t
  | [], _ => trivial
  | x :: t, h => ⟨⟨rfl, .inr (h x (by simp))⟩, Like.of fun y hy => h y (by simp [hy])⟩
theorem Like.len : ∀ {b t : List Fl}, Like b t → b.length = t.length
  | [], [], _ => rfl
  | x :: b, y :: t, h => by rw [List.length_cons, List.length_cons, Like.len h.2]
theorem Like.oks : ∀ {b t : List Fl}, Like b t → b.all okF = true → t.all okF = true
  | [], [], _, _ => rfl
  | x :: b, y :: t, h, h3 => by
    rw [List.all_cons, Bool.and_eq_true] at h3 ⊢
    refine ⟨?_, Like.oks h.2 h3.2⟩
    have h4 := h3.1
    unfold okF at h4 ⊢
    rw [Bool.and_eq_true, decide_eq_true_eq] at h4 ⊢
    rw [← h.1.1]
    refine ⟨h4.1, ?_⟩
    rcases h.1.2 with e | e
    · rw [← e]; exact h4.2
    · exact e
theorem Like.alls {x y : Fl} (e : x.1 = y.1) : ∀ {b t : List Fl}, Like b t → b.all (aheadB x) = t.all (aheadB y)
  | [], [], _ => rfl
  | z :: b, u :: t, h => by
    rw [List.all_cons, List.all_cons, Like.alls e h.2]
    unfold aheadB
    rw [e, h.1.1]
theorem Like.pairs : ∀ {b t : List Fl}, Like b t → pairB aheadB b = true → pairB aheadB t = true
  | [], [], _, _ => rfl
  | x :: b, y :: t, h, h3 => by
    unfold pairB at h3 ⊢
    rw [Bool.and_eq_true] at h3 ⊢
    exact ⟨by rw [← Like.alls h.1.1 h.2]; exact h3.1, Like.pairs h.2 h3.2⟩
theorem Like.right {b t : List Fl} (h : Like b t) (hr : rightT b = true) : rightT t = true := by
  have hlen := h.len
  unfold rightT at hr ⊢
  simp only [Bool.and_eq_true, decide_eq_true_eq] at hr ⊢
  exact ⟨⟨by omega, h.oks hr.1.2⟩, h.pairs hr.2⟩
/-- What is applied to the names is applied to the tree. -/
theorem apply_like {t f : List Fl} {D : List Dl} (ht : rightT t = true) (h : applyT (bareT t) D = .ok f) : ∃ f1, applyT t D = .ok f1 ∧ bareT f1 = bareT f ∧ stepsT t D = .ok f1 := by
  unfold applyT at h ⊢
  split at h
  · cases h
  · rename_i u hu
    obtain ⟨f1, h1, h2⟩ := (Like.of fun x hx => (right_ok ht x hx).2).steps D hu
    split at h
    · cases h
    · split at h
      · cases h
        rename_i hr
        have hr1 := h2.right hr
        refine ⟨f1, ?_, h2.bare.symm, h1⟩
        rw [h1]
        show (if longT f1 then _ else _) = _
        rw [right_not_long hr1, if_neg (by decide), if_pos hr1]
      · cases h

/-- What a path holds behind some changes. -/
def valD (D : List Dl) (s : Bs) (v : Option Bs) : Option Bs := D.foldl (fun v d => if d.p = s then (if d.k = 3 then none else some d.b) else v) v
theorem steps_val : ∀ (D : List Dl) {t f : List Fl} {V : Bs → Option Bs}, Rises t → (∀ s b, (s, b) ∈ t ↔ V s = some b) → stepsT t D = .ok f → Rises f ∧ ∀ s b, (s, b) ∈ f ↔ valD D s (V s) = some b
  | [], t, f, V, h1, h2, e => by
    cases e
    exact ⟨h1, h2⟩
  | d :: D, t, f, V, h1, h2, e => by
    unfold stepsT at e
    rw [stepT_ref] at e
    by_cases h0 : refT t d = 0
    · rw [if_pos h0] at e
      · refine steps_val D (V := fun s => if d.p = s then (if d.k = 3 then none else some d.b) else V s) ?_ ?_ e
        · unfold chT
          split
          · exact rises_dropT _ h1
          · exact rises_putT _ h1
        · intro s b
          unfold chT
          by_cases hk : d.k = 3
          · rw [if_pos hk, mem_dropT, h2, if_pos hk]
            by_cases hs : d.p = s
            · subst hs
              simp
            · rw [if_neg hs]
              exact ⟨fun h => h.1, fun h => ⟨h, fun e => hs e.symm⟩⟩
          · rw [if_neg hk, mem_putT, h2, if_neg hk]
            by_cases hs : d.p = s
            · subst hs
              rw [if_pos rfl]
              simp [eq_comm]
            · rw [if_neg hs]
              constructor
              · rintro (h | h)
                · cases h; exact absurd rfl hs
                · exact h.1
              · intro h
                exact .inr ⟨h, fun e => hs e.symm⟩
    · rw [if_neg h0] at e
      cases e
/-- What the chain tells behind one more revision. -/
theorem valT_add (n : Nat) (s : Bs) : ∀ (D : List Dl) (c : List (Nat × Int × Bs)), valT (chainD n D s ++ c) n = valD D s (valT c n)
  | [], _ => rfl
  | d :: D, c => by
    unfold valD
    rw [List.foldl_cons]
    by_cases hs : d.p = s
    · have e : chainD n (d :: D) s ++ c = chainD n D s ++ ((n, d.k, d.b) :: c) := by
        unfold chainD
        rw [List.filter_cons, if_pos (by simpa using hs), List.map_cons, List.reverse_cons, List.append_assoc]
        rfl
      have e2 : valT ((n, d.k, d.b) :: c) n = if d.k = 3 then none else some d.b := by simp [valT]
      rw [e, valT_add n s D, e2, if_pos hs]
      rfl
    · have e : chainD n (d :: D) s = chainD n D s := by
        unfold chainD
        rw [List.filter_cons, if_neg (by simpa using hs)]
      rw [e, valT_add n s D, if_neg hs]
      rfl
theorem valR_add {G : Nat} {L : List DX} {H : List (Nat × List DX)} (s : Bs) (hH : H ≠ []) : valR ((G, L) :: H) H.length s = valD (L.map DX.dl) s (valR H (H.length - 1) s) := by
  have hl : 0 < H.length := List.length_pos_iff.2 hH
  have e : valR H (H.length - 1) s = valT ((chain H s).map RX.t) H.length := by
    unfold valR
    rw [← valC_t]
    unfold valC
    rw [dropC_none fun x hx => by have := chain_rev H s x hx; omega, dropC_none fun x hx => by have := chain_rev H s x hx; omega]
  rw [e]
  unfold valR
  rw [valC_t]
  show valT ((chainL H.length L s ++ chain H s).map RX.t) H.length = _
  rw [List.map_append, chainL_t, valT_add]
/-- One more commit: the tree of its revision. -/
theorem commit_tree {t f : List Fl} {G : Nat} {L : List DX} {H : List (Nat × List DX)} (hH : H ≠ []) (hr : rightT t = true) (ht : IsTree H (H.length - 1) t) (h : applyT (bareT t) (L.map DX.dl) = .ok f) :
    ∃ f1, applyT t (L.map DX.dl) = .ok f1 ∧ IsTree ((G, L) :: H) H.length f1 ∧ bareT f1 = bareT f := by
  obtain ⟨f1, h1, h2, h3⟩ := apply_like hr h
  obtain ⟨h4, h5⟩ := steps_val _ ht.1 ht.2 h3
  exact ⟨f1, h1, ⟨h4, fun s b => by rw [h5, valR_add s hH]⟩, h2⟩
end Go.Proofs.YtffhfllikamccaaGreatDoor
namespace Go.Proofs.YtffhfllikamccaaGreatDoor
open Go Go.RowKit Go.Shelf Go.Proofs Go.ChangeMaps Go.Maps Go.WideMaps

theorem small_of_right {l : List FX} (h : rightT (flsX l) = true) : SmallX l ∧ l.length ≤ 1000 := by
  have h1 := right_len h
  rw [flsX_length] at h1
  refine ⟨⟨by omega, fun x hx => ?_⟩, h1⟩
  have h2 := right_ok h x.fl (List.mem_map_of_mem hx)
  have h3 : x.p.data.toList.length ≤ 100 := by
    have h4 : rightB x.p.data.toList = true := h2.1
    unfold rightB partsB at h4
    simp only [Bool.and_eq_true, decide_eq_true_eq] at h4
    exact h4.1
  have e : x.p.data.toList.length = x.p.size := by rw [Array.length_toList]; rfl
  have h5 : x.b.length ≤ 65536 := h2.2
  exact ⟨by omega, by omega⟩

/-- A tree as an element of a row. -/
structure TX where
  A : Option Addr
  c : Nat
  l : List FX
def TX.v (x : TX) : Value := .slice x.A x.l.length x.c
structure RowsT (base : Nat) (w : World) (v : Value) (ts : List TX) : Prop where
  own : w.ownsRow base 23 1 v ts.length (ts.map TX.v)
  bod : ∀ x ∈ ts, TreeMade base w x.v x.l
theorem RowsT.nil (base : Nat) (w : World) : RowsT base w (.slice none 0 0) [] := ⟨World.ownsRow_nil _ _ _ _, fun x hx => by cases hx⟩
theorem RowsT.below {base : Nat} {w w' : World} {v : Value} {ts : List TX} (h : RowsT base w v ts) (hb : Below w.heap.size w w') : RowsT base w' v ts :=
  ⟨h.own.kept (grownN hb none) (by cases v.ownBlock <;> simp), fun x hx => (h.bod x hx).below hb⟩
theorem TreeMade.keepR {base : Nat} {w w' : World} {v : Value} {l : List FX} (h : TreeMade base w v l) (hk : KeepR w w') : TreeMade base w' v l := by
  refine ⟨⟨h.own.1, ?_⟩, fun x hx => (h.bod x hx).keep fun g cur hg => hk g cur _ (by decide) hg⟩
  rcases h.own.2 with h1 | ⟨g, cap, cur, h1, h2, h3, h4⟩
  · exact .inl h1
  · exact .inr ⟨g, cap, cur, h1, h2, (hk g cur _ (by decide) h3).trans h3, h4⟩
theorem TreeMade.base {base base' : Nat} {w : World} {v : Value} {l : List FX} (h : TreeMade base w v l) (hb : base' ≤ base) : TreeMade base' w v l := ⟨FilesOwn.base h.own hb, h.bod⟩
theorem RowsT.keepR {base : Nat} {w w' : World} {v : Value} {ts : List TX} (h : RowsT base w v ts) (hk : KeepR w w') : RowsT base w' v ts := by
  refine ⟨⟨h.own.1, ?_⟩, fun x hx => (h.bod x hx).keepR hk⟩
  rcases h.own.2 with h1 | ⟨g, cap, cur, h1, h2, h3, h4⟩
  · exact .inl h1
  · exact .inr ⟨g, cap, cur, h1, h2, (hk g cur _ (by decide) h3).trans h3, h4⟩
theorem RowsT.slice {base : Nat} {w : World} {v : Value} {ts : List TX} (h : RowsT base w v ts) : ∃ A c, v = .slice A ts.length c := by
  rcases h.own.2 with ⟨rfl, h0⟩ | ⟨g, cap, cur, rfl, _⟩
  · exact ⟨none, 0, by rw [h0]⟩
  · exact ⟨_, _, rfl⟩
theorem RowsT.at_ {base : Nat} {w : World} {A : Option Addr} {n c : Nat} {ts : List TX} (h : RowsT base w (.slice A n c) ts) {i : Nat} {x : TX} (hx : ts[i]? = some x) : n = ts.length ∧ ∃ g, A = some ⟨g, 0, none⟩ ∧ w.cell? ⟨g, i, none⟩ = some x.v := by
  have hl := (List.getElem?_eq_some_iff.1 hx).1
  rcases h.own.2 with ⟨_, h0⟩ | ⟨g, cap, cur, h1, _, hg, _⟩
  · omega
  · cases h1
    refine ⟨rfl, g, rfl, ?_⟩
    have h2 := World.ownsRow.cells h.own (g := g) rfl i x.v (by rw [List.getElem?_map, hx]; rfl)
    rw [Go.WideShapes.add_plain, Nat.zero_add] at h2
    exact h2
theorem tree_info : (Tryz.prog.info? 23).map (fun i => (i.zero, i.size, i.bytes)) = some (some (.slice none 0 0), 1, 24) := by kernel_rfl
theorem wpList_appT {base : Nat} {w : World} {v : Value} {ts : List TX} {ops : Array Oper} {rest : List Oper} {o : Oper} {a : Act} {Q : Exit → Act → World → Prop} (hgd : o.guard = none) (s x : Operand)
    (ho : o.op = .call { callee := .builtin .append, args := #[s, x], argTypes := #[32, 32] }) (hs : a.eval s = v) (hr : RowsT base w v ts) (y : TX) (hy : TreeMade base w y.v y.l)
    (g : Nat) (hx : a.eval x = .slice (some ⟨g, 0, none⟩) 1 1) (hcell : w.cell? ⟨g, 0, none⟩ = some y.v) (hlen : ts.length ≤ 1000000) (hbase : base ≤ w.heap.size)
    (h : ∀ v' w', RowsT base w' v' (ts ++ [y]) → w.grownBy w' v.ownBlock → wpList Tryz.prog ops Q rest (a.put o.dst v') w') : wpList Tryz.prog ops Q (o :: rest) a w := by
  obtain ⟨i0, hi, hz0, hz1, hz2⟩ := info_parts tree_info
  refine wpList_append_own w hgd s x 32 ho base 23 i0 (.slice none 0 0) 1 24 Tryz.underlying32 hi hz0 hz1 hz2 rfl (by decide) v ts.length (ts.map TX.v) hs hr.own ⟨g, 0, none⟩ 1 1 [y.v] hx rfl
    (fun j u hu => by
      have hj : j = 0 := by
        have := (List.getElem?_eq_some_iff.1 hu).1
        simp at this; omega
      subst hj
      obtain rfl : y.v = u := by simpa using hu
      rw [Go.WideShapes.add_plain]; exact hcell) (fun u hu => by rw [List.mem_singleton] at hu; subst hu; rfl) (by unfold maxLen; omega) (by omega) hbase fun v' w' h1 h2 _ => h v' w' ⟨?_, ?_⟩ h2
  · rw [List.length_append, List.map_append]; exact h1
  · have hrow : ∀ q t' (cur : Array Value), v.ownBlock = some q → w.heap[q]? = some (Obj.cells cur t' (0, 0)) → t' = 23 := fun q t' cur e hq => by
      obtain ⟨_, cur2, h3⟩ := rowT_ge hr.own e
      rw [hq] at h3
      cases h3
      rfl
    have hk : ∀ {z : TX}, TreeMade base w z.v z.l → TreeMade base w' z.v z.l := fun {z} hz => by
      refine ⟨hz.own.keepG h2 fun q e cur hq => ?_, fun y hy => (hz.bod y hy).keep fun q cur hq => h2.block q (Array.getElem?_eq_some_iff.1 hq).1 fun e => ?_⟩
      · have h4 := hrow q _ cur e hq
        revert h4; decide
      · have h4 := hrow q _ cur e.symm hq
        revert h4; decide
    intro z hz
    rcases List.mem_append.1 hz with hz | hz
    · exact hk (hr.bod z hz)
    · rw [List.mem_singleton] at hz; subst hz; exact hk hy

theorem IsTree.later {G : Nat} {L : List DX} {H : List (Nat × List DX)} {k : Nat} {f : List Fl} (h : IsTree H k f) (hk : k < H.length) : IsTree ((G, L) :: H) k f := ⟨h.1, fun s b => by rw [h.2, valR_later hk]⟩
/-- The trees of all revisions. -/
structure Trees (H : List (Nat × List DX)) (t : List Fl) (ts : List TX) : Prop where
  len : ts.length = H.length
  each : ∀ k x, ts[k]? = some x → IsTree H k (flsX x.l) ∧ rightT (flsX x.l) = true
  last : ∃ x, ts[H.length - 1]? = some x ∧ Made t H (bareT (flsX x.l))
  first : ∃ x, ts[0]? = some x ∧ flsX x.l = t
theorem Trees.start {t : List Fl} {G : Nat} {l : List DX} {b : List Fl} {x : TX} (hr : rightT t = true) (hm : Made t [(G, l)] b) (hx : IsTree [(G, l)] 0 (flsX x.l)) : Trees [(G, l)] t [x] := by
  have e := first_eq (right_sorted hr) hm hx
  refine ⟨rfl, fun k y hy => ?_, ⟨x, rfl, by rw [e]; exact ⟨hm.1, rfl⟩⟩, ⟨x, rfl, e⟩⟩
  have hk : k = 0 := by
    have := (List.getElem?_eq_some_iff.1 hy).1
    simpa using this
  subst hk
  obtain rfl : x = y := by simpa using hy
  exact ⟨hx, by rw [e]; exact hr⟩
theorem Trees.step {H : List (Nat × List DX)} {t : List Fl} {ts : List TX} {G : Nat} {L : List DX} {b : List Fl} {u : TX} (h : Trees H t ts) (hm : Made t ((G, L) :: H) b) (hu : IsTree ((G, L) :: H) H.length (flsX u.l)) :
    ∃ x, ts[H.length - 1]? = some x ∧ rightT (flsX x.l) = true ∧ applyT (flsX x.l) (L.map DX.dl) = .ok (flsX u.l) ∧ Trees ((G, L) :: H) t (ts ++ [u]) := by
  obtain ⟨x, hx, hmx⟩ := h.last
  have hH : H ≠ [] := fun e => by subst e; exact hmx
  have hl : 0 < H.length := List.length_pos_iff.2 hH
  obtain ⟨b0, h1, h2, f, h3, _⟩ := hm.next hH
  have e := Made.unique h1 hmx
  subst e
  obtain ⟨hit, hrx⟩ := h.each _ x hx
  obtain ⟨f1, h4, h5, h6⟩ := commit_tree (G := G) hH hrx hit h3
  have e2 : flsX u.l = f1 := isTree_unique hu h5 fun _ => rfl
  refine ⟨x, hx, hrx, by rw [e2]; exact h4, by rw [List.length_append, h.len]; rfl, fun k y hy => ?_, ⟨u, ?_, ?_⟩, ?_⟩
  · by_cases hk : k < ts.length
    · rw [List.getElem?_append_left hk] at hy
      obtain ⟨h7, h8⟩ := h.each k y hy
      exact ⟨h7.later (by rw [← h.len]; exact hk), h8⟩
    · rw [List.getElem?_append_right (by omega)] at hy
      have hk2 : k - ts.length = 0 := by
        have := (List.getElem?_eq_some_iff.1 hy).1
        simpa using this
      rw [hk2] at hy
      obtain rfl : u = y := by simpa using hy
      have hk3 : k = H.length := by have := h.len; omega
      subst hk3
      exact ⟨hu, by rw [e2]; exact applyT_ok h4⟩
  · rw [List.length_cons, Nat.add_sub_cancel, ← h.len, List.getElem?_append_right (Nat.le_refl _), Nat.sub_self]; rfl
  · rw [e2, h6]
    exact h1.add h2 h3
  · obtain ⟨y, hy, e3⟩ := h.first
    exact ⟨y, by rw [List.getElem?_append_left (List.getElem?_eq_some_iff.1 hy).1]; exact hy, e3⟩
end Go.Proofs.YtffhfllikamccaaGreatDoor
