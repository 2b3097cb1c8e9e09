/-
  What a history of the same changes tells: the same. No program is named here. · A history in memory and what it was made of; what its calls answer then. · Two histories of the same changes, side by side in memory.
-/
import Derived.Test.YtlnpabpdgjganaaGreatDoorGPlain
import Derived.Test.YtlnpabpdgjganaaGreatDoorGNew
import Derived.Test.YtlnpabpdgjganaaGreatDoorGAt
import Derived.Test.YtlnpabpdgjganaaGreatDoorGDeltas
import Derived.Test.YtlnpabpdgjganaaGreatDoorGCommit
import Derived.Test.YtlnpabpdgjganaaGreatDoorGSame
import Derived.Test.YtlnpabpdgjganaaGreatDoorGSmall
namespace Go.Proofs.YtlnpabpdgjganaaGreatDoor
open Go Go.RowKit Go.Shelf Go.Proofs Go.ChangeMaps Go.Maps Go.WideMaps

/-- A record without the places of its bytes. -/
def RX.t (x : RX) : Nat × Int × Bs := (x.r, x.k, x.b)
def chainD (r : Nat) (D : List Dl) (s : Bs) : List (Nat × Int × Bs) := ((D.filter fun d => d.p == s).map fun d => (r, d.k, d.b)).reverse
theorem chainL_t (r : Nat) (L : List DX) (s : Bs) : (chainL r L s).map RX.t = chainD r (L.map DX.dl) s := by
  unfold chainL chainD
  rw [List.map_reverse, List.map_map, List.filter_map, List.map_map]
  rfl
def valT (c : List (Nat × Int × Bs)) (r : Nat) : Option Bs := match c.dropWhile fun x => decide (r < x.1) with
  | [] => none
  | x :: _ => if x.2.1 = 3 then none else some x.2.2
theorem valC_t (r : Nat) : ∀ c : List RX, valC c r = valT (c.map RX.t) r
  | [] => rfl
  | x :: c => by
    by_cases h : r < x.r
    · have e1 : valC (x :: c) r = valC c r := by unfold valC; rw [dropC_late h]
      have e2 : valT ((x :: c).map RX.t) r = valT (c.map RX.t) r := by
        unfold valT
        rw [List.map_cons, List.dropWhile_cons, if_pos (by exact decide_eq_true h)]
      rw [e1, e2, valC_t r c]
    · unfold valC valT
      rw [dropC_here h, List.map_cons, List.dropWhile_cons, if_neg (by rw [decide_eq_true_eq]; exact h)]
      rfl
theorem SameH.len : ∀ {H H' : List (Nat × List DX)}, SameH H H' → H.length = H'.length
  | [], [], _ => rfl
  | (_, _) :: _, (_, _) :: _, h => by rw [List.length_cons, List.length_cons, SameH.len h.2]
theorem SameH.chains : ∀ {H H' : List (Nat × List DX)}, SameH H H' → ∀ s, (chain H s).map RX.t = (chain H' s).map RX.t
  | [], [], _, _ => rfl
  | (_, L) :: H, (_, L') :: H', h, s => by
    show (chainL H.length L s ++ chain H s).map RX.t = (chainL H'.length L' s ++ chain H' s).map RX.t
    rw [List.map_append, List.map_append, chainL_t, chainL_t, h.1, SameH.chains h.2 s, SameH.len h.2]
theorem SameH.val {H H' : List (Nat × List DX)} (h : SameH H H') (r : Nat) (s : Bs) : valR H r s = valR H' r s := by
  unfold valR
  rw [valC_t, valC_t, h.chains s]
theorem valR_behind {r : Nat} (s : Bs) : ∀ (A B : List (Nat × List DX)), r < B.length → valR (A ++ B) r s = valR B r s
  | [], _, _ => rfl
  | (G, L) :: A, B, h => by
    rw [List.cons_append, valR_later (by rw [List.length_append]; omega), valR_behind s A B h]
theorem valR_drop {H : List (Nat × List DX)} {r j : Nat} (s : Bs) (h : r < (H.drop j).length) : valR H r s = valR (H.drop j) r s := by
  have := valR_behind (r := r) s (H.take j) (H.drop j) h
  rwa [List.take_append_drop] at this

/-- The changes that lay a tree. -/
def laysT (t : List Fl) : List Dl := t.map fun y => ⟨1, y.1, y.2⟩
/-- The revisions H of the first tree t, the names being b at last. -/
def Made (t : List Fl) : List (Nat × List DX) → List Fl → Prop
  | [], _ => False
  | [(_, l)], b => l.map DX.dl = laysT t ∧ b = bareT t
  | (_, L) :: x :: H, b => ∃ b0, Made t (x :: H) b0 ∧ L ≠ [] ∧ ∃ f, applyT b0 (L.map DX.dl) = .ok f ∧ b = bareT f
theorem Made.unique {t : List Fl} : ∀ {H : List (Nat × List DX)} {b b' : List Fl}, Made t H b → Made t H b' → b = b'
  | [], _, _, h, _ => h.elim
  | [_], _, _, h, h' => h.2.trans h'.2.symm
  | (_, _) :: _ :: _, _, _, ⟨b0, h1, _, f, h2, h3⟩, ⟨b1, h1', _, f', h2', h3'⟩ => by
    have e := Made.unique h1 h1'
    subst e
    rw [h2] at h2'
    cases h2'
    exact h3.trans h3'.symm
theorem Made.next {t : List Fl} {G : Nat} {L : List DX} {H : List (Nat × List DX)} {b : List Fl} (hH : H ≠ []) (h : Made t ((G, L) :: H) b) : ∃ b0, Made t H b0 ∧ L ≠ [] ∧ ∃ f, applyT b0 (L.map DX.dl) = .ok f ∧ b = bareT f := by
  cases H with
  | nil => exact absurd rfl hH
  | cons x H => exact h
theorem Made.add {t : List Fl} {G : Nat} {L : List DX} {H : List (Nat × List DX)} {b0 f : List Fl} (h : Made t H b0) (hL : L ≠ []) (hf : applyT b0 (L.map DX.dl) = .ok f) : Made t ((G, L) :: H) (bareT f) := by
  cases H with
  | nil => exact h.elim
  | cons x H => exact ⟨b0, h, hL, f, hf, rfl⟩
theorem Made.drop {t : List Fl} : ∀ {H : List (Nat × List DX)} {b : List Fl}, Made t H b → ∀ j, j < H.length → ∃ b0, Made t (H.drop j) b0
  | _, b, h, 0, _ => ⟨b, h⟩
  | (_, _) :: H, _, h, j + 1, hj => by
    obtain ⟨b0, h1, _⟩ := h.next (fun e => by subst e; simp at hj)
    exact Made.drop h1 j (by simpa using hj)
theorem Made.first {t : List Fl} : ∀ {H : List (Nat × List DX)} {b : List Fl}, Made t H b → ∃ G l, H.drop (H.length - 1) = [(G, l)] ∧ l.map DX.dl = laysT t
  | [], _, h => h.elim
  | [(G, l)], _, h => ⟨G, l, rfl, h.1⟩
  | (_, _) :: x :: H, _, h => by
    obtain ⟨b0, h1, _⟩ := h.next (by simp)
    obtain ⟨G, l, h2, h3⟩ := Made.first h1
    exact ⟨G, l, by simpa using h2, h3⟩

/-- The first revision is the tree that it was made of. -/
theorem first_is {t : List Fl} (ht : Rises t) {G : Nat} {l : List DX} (hl : l.map DX.dl = laysT t) : IsTree [(G, l)] 0 t := by
  refine ⟨ht, fun s b => ?_⟩
  have e : valR [(G, l)] 0 s = valT (chainD 0 (laysT t) s) 0 := by
    unfold valR
    rw [valC_t]
    show valT ((chainL 0 l s ++ []).map RX.t) 0 = _
    rw [List.append_nil, chainL_t, hl]
  have hmem : ∀ d, d ∈ (laysT t).filter (fun d => d.p == s) ↔ ∃ b', (s, b') ∈ t ∧ d = ⟨1, s, b'⟩ := fun d => by
    rw [List.mem_filter]
    unfold laysT
    rw [List.mem_map]
    constructor
    · rintro ⟨⟨⟨p, b'⟩, h1, rfl⟩, h2⟩
      have h2 : p = s := by simpa using h2
      subst h2
      exact ⟨b', h1, rfl⟩
    · rintro ⟨b', h1, rfl⟩
      exact ⟨⟨(s, b'), h1, rfl⟩, by simp⟩
  rw [e]
  unfold chainD
  cases hr : (((laysT t).filter fun d => d.p == s).map fun d => (0, d.k, d.b)).reverse with
  | nil =>
    have h0 : (laysT t).filter (fun d => d.p == s) = [] := by simpa using hr
    constructor
    · intro hm
      have := (hmem ⟨1, s, b⟩).2 ⟨b, hm, rfl⟩
      rw [h0] at this
      cases this
    · intro h; cases h
  | cons x c =>
    have hx : x ∈ (((laysT t).filter fun d => d.p == s).map fun d => ((0 : Nat), d.k, d.b)).reverse := by rw [hr]; simp
    rw [List.mem_reverse, List.mem_map] at hx
    obtain ⟨d, hd, rfl⟩ := hx
    obtain ⟨b', hb', rfl⟩ := (hmem d).1 hd
    show _ ↔ (if (1 : Int) = 3 then none else some b') = some b
    rw [if_neg (by decide)]
    constructor
    · intro hm
      have := rises_unique ht hm hb' rfl
      cases this
      rfl
    · intro h; cases h; exact hb'
theorem first_eq {t f : List Fl} {H : List (Nat × List DX)} {b : List Fl} (ht : Rises t) (hm : Made t H b) (hf : IsTree H 0 f) : f = t := by
  obtain ⟨G, l, h1, h2⟩ := hm.first
  refine isTree_unique hf (first_is (G := G) ht h2) fun s => ?_
  rw [← h1]
  exact valR_drop s (by rw [h1]; simp)
end Go.Proofs.YtlnpabpdgjganaaGreatDoor
namespace Go.Proofs.YtlnpabpdgjganaaGreatDoor
open Go Go.RowKit Go.Shelf Go.Proofs Go.ChangeMaps Go.Maps Go.WideMaps

theorem HistAt.rebase {base base' : Nat} {w : World} {hb n : Nat} {nm : List FX} {M : Bs → Nat} {nv cv : Value} {mb k : Nat} {D : DataW Unit} {H : List (Nat × List DX)} (h : HistAt base w hb n nm M nv cv mb k D H) (hb' : base' ≤ base) : HistAt base' w hb n nm M nv cv mb k D H := by
  refine ⟨h.heap, h.names, h.right, h.bare, ⟨h.commits.1, ?_⟩, h.num, h.full, h.sm, h.map, h.room, h.revs, h.le, Nat.le_trans hb' h.lb, Nat.le_trans hb' h.lm⟩
  rcases h.commits.2 with h2 | ⟨g, cap, cur, h3, h4, h5⟩
  · exact .inl h2
  · exact .inr ⟨g, cap, cur, h3, Nat.le_trans hb' h4, h5⟩

/-- Some history of n revisions behind the first, H, of the first tree t. -/
def HSome (base : Nat) (w : World) (hb n : Nat) (t : List Fl) (H : List (Nat × List DX)) : Prop := ∃ nm M nv cv mb k D, HistAt base w hb n nm M nv cv mb k D H ∧ Made t H (flsX nm)
theorem HSome.below {base : Nat} {w w' : World} {hb n : Nat} {t : List Fl} {H : List (Nat × List DX)} (h : HSome base w hb n t H) (hb2 : Below w.heap.size w w') : HSome base w' hb n t H := by
  obtain ⟨nm, M, nv, cv, mb, k, D, h, hm⟩ := h
  exact ⟨nm, M, nv, cv, mb, k, D, h.below hb2, hm⟩
theorem HSome.num {base : Nat} {w : World} {hb n : Nat} {t : List Fl} {H : List (Nat × List DX)} (h : HSome base w hb n t H) : H.length = n + 1 := by
  obtain ⟨nm, M, nv, cv, mb, k, D, h, hm⟩ := h
  exact h.num
theorem HSome.made {base : Nat} {w : World} {hb n : Nat} {t : List Fl} {H : List (Nat × List DX)} (h : HSome base w hb n t H) : ∃ b, Made t H b := by
  obtain ⟨nm, M, nv, cv, mb, k, D, h, hm⟩ := h
  exact ⟨_, hm⟩
theorem HSome.sm {base : Nat} {w : World} {hb n : Nat} {t : List Fl} {H : List (Nat × List DX)} (h : HSome base w hb n t H) : ∀ x ∈ H, SmallD x.2 := by
  obtain ⟨nm, M, nv, cv, mb, k, D, h, hm⟩ := h
  exact h.sm
theorem HSome.lb {base : Nat} {w : World} {hb n : Nat} {t : List Fl} {H : List (Nat × List DX)} (h : HSome base w hb n t H) : base ≤ hb ∧ ∃ cs, w.heap[hb]? = some (.cells cs 74 (0, 0)) := by
  obtain ⟨nm, M, nv, cv, mb, k, D, h, hm⟩ := h
  exact ⟨h.lb, _, h.heap⟩
theorem HSome.head {base : Nat} {w : World} {hb n : Nat} {t : List Fl} {H : List (Nat × List DX)} (h : HSome base w hb n t H) :
    Calls Tryz.prog 12 #[.pointer (some ⟨hb, 0, none⟩)] w fun e w' => e = .returned (.int .i64 n) ∧ w' = w := by
  obtain ⟨nm, M, nv, cv, mb, k, D, h, hm⟩ := h
  obtain ⟨A, c, rfl, _⟩ := h.commit_slice
  exact hhead_any hb A n c w (cell_of_row w hb 1 _ _ _ h.heap)
theorem HSome.atR {base : Nat} {w : World} {hb n : Nat} {t : List Fl} {H : List (Nat × List DX)} (h : HSome base w hb n t H) {r : Nat} (hr : r ≤ n) (hn : n ≤ 99999) :
    Calls Tryz.prog 17 #[.pointer (some ⟨hb, 0, none⟩), .int .i64 r] w (AtPost H r w) := by
  obtain ⟨nm, M, nv, cv, mb, k, D, h, hm⟩ := h
  exact hat_any h hr hn
theorem HSome.deltasR {base : Nat} {w : World} {hb n : Nat} {t : List Fl} {H : List (Nat × List DX)} (h : HSome base w hb n t H) {r : Nat} (h1 : 1 ≤ r) (hr : r ≤ n) (hn : n ≤ 100000) {G : Nat} {L : List DX} (hG : H[n - r]? = some (G, L)) :
    Calls Tryz.prog 19 #[.pointer (some ⟨hb, 0, none⟩), .int .i64 r] w (DeltasPost L w) := by
  obtain ⟨nm, M, nv, cv, mb, k, D, h, hm⟩ := h
  exact hdeltas_any h h1 hr hn hG
def CommitS (w0 : World) (hb n : Nat) (t : List Fl) (H : List (Nat × List DX)) (L : List DX) (w : World) (e : Ending) (w' : World) : Prop :=
  (∃ q : Int, q ≠ 0 ∧ (L = [] ∨ ∃ b, Made t H b ∧ applyT b (L.map DX.dl) = .error q) ∧ e = .returned (.tuple #[.int .i64 0, .int .i64 q]) ∧ Below w.heap.size w w') ∨
  (∃ G, e = .returned (.tuple #[.int .i64 ((n + 1 : Nat) : Int), .int .i64 0]) ∧ HSome w0.heap.size w' hb (n + 1) t ((G, L) :: H) ∧ Below w0.heap.size w w' ∧ KeepR w w')
theorem HSome.commit {w0 w : World} {hb n : Nat} {t : List Fl} {H : List (Nat × List DX)} (h : HSome w0.heap.size w hb n t H) (h0 : Below w0.heap.size w0 w) (hn : n < 100000) (L : List DX) (B : Option Addr) (d : Nat) (hd : DelsKeep w hb B d L) (hs : SmallD L) (hm : MaxOk w0) :
    Calls Tryz.prog 10 #[.pointer (some ⟨hb, 0, none⟩), .slice B L.length d] w (CommitS w0 hb n t H L w) := by
  obtain ⟨nm, M, nv, cv, mb, k, D, h, hmd⟩ := h
  refine (hcommit_any w0 hb n nm M nv cv mb k D H L B d w h h0 hn hd hs hm).mono ?_
  rintro e w' (⟨q, hq, hap, he, hb2⟩ | ⟨nm', nv', cv', mb', k', D', G, hne, ⟨f, hf, hfn⟩, he, hH, hb2, hk⟩)
  · exact .inl ⟨q, hq, hap.imp id fun h => ⟨_, hmd, h⟩, he, hb2⟩
  · exact .inr ⟨G, he, ⟨nm', _, nv', cv', mb', k', D', hH, by rw [hfn]; exact hmd.add hne hf⟩, hb2, hk⟩

def NewS (t : List FX) (w : World) (e : Ending) (w' : World) : Prop :=
  if rightT (flsX t) then ∃ hb G l, e = .returned (.tuple #[.pointer (some ⟨hb, 0, none⟩), .int .i64 0]) ∧ HSome w.heap.size w' hb 0 (flsX t) [(G, l)] ∧ Below w.heap.size w w'
  else e = .returned (.tuple #[.pointer none, .int .i64 2]) ∧ Below w.heap.size w w'
theorem hnewS_any (t : List FX) (A : Option Addr) (c : Nat) (w : World) (h : TreeAt w A c t) (hs : ∀ x ∈ t, x.p.size ≤ 1000000) (hm : MaxOk w) :
    Calls Tryz.prog 8 #[.slice A t.length c] w (NewS t w) := by
  refine (hnew_any t A c w h hs hm).mono fun e w' hp => ?_
  unfold NewPost at hp
  unfold NewS
  cases hr : rightT (flsX t) with
  | false => rw [if_neg (by rw [hr]; decide)] at hp; rw [if_neg (by decide)]; exact hp
  | true =>
    rw [if_pos hr] at hp
    rw [if_pos rfl]
    obtain ⟨hb, nv, cv, mb, k, D, G, l, he, hH, hl, hb2⟩ := hp
    refine ⟨hb, G, l, he, ⟨_, _, nv, cv, mb, k, D, hH, ?_, bareX_fls t⟩, hb2⟩
    rw [hl]
    unfold diffB
    rw [show rightT (flsX []) = true from rfl, hr]
    exact diffT_nil (flsX t)

/-- What the second history is behind r revisions: it was made of the same changes. -/
def Twin (H K : List (Nat × List DX)) (r : Nat) : Prop := SameH K (H.drop (H.length - 1 - r))
theorem hrefhead_any (w : World) : Calls Tryz.prog 13 #[.agg #[.slice none 0 0, .slice none 0 0]] w fun e w' => e = .returned (.int .i64 (-1)) ∧ Below w.heap.size w w' := by
  go_enter Tryz.func13, Tryz.ntmps13
  go_wp2_with fail
  go_ret
  exact ⟨rfl, below_box w _⟩
end Go.Proofs.YtlnpabpdgjganaaGreatDoor
namespace Go.Proofs.YtlnpabpdgjganaaGreatDoor
open Go Go.RowKit Go.Shelf Go.Proofs Go.ChangeMaps Go.Maps Go.WideMaps

theorem small_delsG {t : List FX} {l : List LX} (h : hsmallL t l = true) {x : LX} (hx : x ∈ l) : SmallD x.d := by
  unfold hsmallL at h
  simp only [Bool.and_eq_true, decide_eq_true_eq] at h
  have h1 := longLN_mem hx
  have h2 := longDN_len x.d
  refine ⟨by omega, fun y hy => ?_⟩
  have h3 := longDN_mem hy
  omega
theorem small_treeG {t : List FX} {l : List LX} (h : hsmallL t l = true) : ∀ x ∈ t, x.p.size ≤ 1000000 := fun x hx => by
  unfold hsmallL at h
  simp only [Bool.and_eq_true, decide_eq_true_eq] at h
  obtain ⟨k, hk⟩ := List.getElem?_of_mem hx
  have h1 := longN_snoc hk
  have h2 : longN (t.take (k + 1)) ≤ longN t := by
    have e : longN t = longN (t.take (k + 1)) + longN (t.drop (k + 1)) := by
      unfold longN
      rw [← List.sum_append, ← List.map_append, List.take_append_drop]
    omega
  omega
theorem sizes_of {t f : List FX} (h : flsX f = flsX t) (hs : ∀ x ∈ t, x.p.size ≤ 1000000) : ∀ x ∈ f, x.p.size ≤ 1000000 := fun x hx => by
  have h1 : x.fl ∈ flsX t := by rw [← h]; exact List.mem_map_of_mem hx
  obtain ⟨y, hy, e⟩ := List.mem_map.1 h1
  have e2 : y.p.data.toList = x.p.data.toList := congrArg Prod.fst e
  have e3 : ∀ q : ByteArray, q.data.toList.length = q.size := fun q => by rw [Array.length_toList]; rfl
  have := hs y hy
  rw [← e3, e2, e3] at this
  exact this
theorem SmallD.same {l L : List DX} (h : l.map DX.dl = L.map DX.dl) (hs : SmallD L) : SmallD l := by
  refine ⟨by have := congrArg List.length h; simp at this; have := hs.1; omega, fun x hx => ?_⟩
  have h1 : x.dl ∈ L.map DX.dl := by rw [← h]; exact List.mem_map_of_mem hx
  obtain ⟨y, hy, e⟩ := List.mem_map.1 h1
  have e2 : y.p.data.toList = x.p.data.toList := congrArg Dl.p e
  have e4 : y.b = x.b := congrArg Dl.b e
  have e3 : ∀ q : ByteArray, q.data.toList.length = q.size := fun q => by rw [Array.length_toList]; rfl
  have := hs.2 y hy
  rw [← e3, e2, e3, e4] at this
  exact this
theorem DelsKeep.own {base : Nat} {w : World} {hb : Nat} {A : Option Addr} {n c : Nat} {ld : List DX} (h : DeltasAt base w (.slice A n c) ld) (hh : ∃ cs, w.heap[hb]? = some (.cells cs 74 (0, 0))) : DelsKeep w hb A c ld := fun w' _ hq => by
  obtain ⟨cs, hh⟩ := hh
  obtain ⟨A2, c2, e, hd⟩ := h.dels
  cases e
  refine hd.behind (fun g o e hl => hq g hl fun e2 => ?_) (fun x hx => ((h.bod x hx).keep fun g cur hg => hq g (Array.getElem?_eq_some_iff.1 hg).1 fun e2 => ?_).at_)
  · subst e2 e
    rcases h.own.2 with ⟨h0, _⟩ | ⟨g', cap, cur, h0, _, hg, _⟩
    · cases h0
    · cases h0; rw [hg] at hh; cases hh
  · subst e2
    rw [hg] at hh; cases hh
theorem Made.same {t : List Fl} : ∀ {H K : List (Nat × List DX)} {b : List Fl}, SameH K H → Made t H b → Made t K b
  | [], _, _, _, h => h.elim
  | [(_, l)], [(_, l')], _, hs, h => ⟨by rw [hs.1]; exact h.1, h.2⟩
  | (_, L) :: x :: H, (_, L') :: y :: K, b, hs, h => by
    obtain ⟨b0, h1, h2, f, h3, h4⟩ := h
    refine ⟨b0, Made.same hs.2 h1, fun e => h2 ?_, f, by rw [hs.1]; exact h3, h4⟩
    have := hs.1
    rw [e] at this
    simpa using this.symm
  | [_], [], _, hs, _ => hs.elim
  | [_], _ :: _ :: _, _, hs, _ => hs.2.elim
  | _ :: _ :: _, [], _, hs, _ => hs.elim
  | _ :: _ :: _, [_], _, hs, _ => hs.2.elim

/-- The changes of one more revision, committed again, are taken. -/
theorem again_ok {t : List Fl} {H K : List (Nat × List DX)} {b : List Fl} {j : Nat} {G : Nat} {L ld : List DX} (hm : Made t H b) (hj : j + 1 < H.length) (hG : H[j]? = some (G, L)) (hs : SameH K (H.drop (j + 1))) (hl : ld.map DX.dl = L.map DX.dl) {q : Int}
    (h : ld = [] ∨ ∃ b, Made t K b ∧ applyT b (ld.map DX.dl) = .error q) : False := by
  obtain ⟨b1, h1⟩ := hm.drop j (by omega)
  rw [List.drop_eq_getElem_cons (by omega), (List.getElem?_eq_some_iff.1 hG).2] at h1
  obtain ⟨b0, h2, h3, f, h4, _⟩ := h1.next (fun e => by have := congrArg List.length e; rw [List.length_drop, List.length_nil] at this; omega)
  rcases h with h | ⟨b2, h5, h6⟩
  · subst h
    have : L = [] := by simpa using hl.symm
    exact h3 this
  · have e := Made.unique h5 (h2.same hs)
    subst e
    rw [hl, h4] at h6
    cases h6
theorem again_ne {t : List Fl} {H : List (Nat × List DX)} {b : List Fl} {j : Nat} {G : Nat} {L ld : List DX} (hm : Made t H b) (hj : j + 1 < H.length) (hG : H[j]? = some (G, L)) (hl : ld.map DX.dl = L.map DX.dl) : 0 < ld.length := by
  obtain ⟨b1, h1⟩ := hm.drop j (by omega)
  rw [List.drop_eq_getElem_cons (by omega), (List.getElem?_eq_some_iff.1 hG).2] at h1
  obtain ⟨b0, h2, h3, _⟩ := h1.next (fun e => by have := congrArg List.length e; rw [List.length_drop, List.length_nil] at this; omega)
  have e := congrArg List.length hl
  simp at e
  rw [e]
  exact List.length_pos_iff.2 h3
theorem again_same {H K : List (Nat × List DX)} {j : Nat} {G G' : Nat} {L ld : List DX} (hj : j < H.length) (hG : H[j]? = some (G, L)) (hs : SameH K (H.drop (j + 1))) (hl : ld.map DX.dl = L.map DX.dl) : SameH ((G', ld) :: K) (H.drop j) := by
  rw [List.drop_eq_getElem_cons hj, (List.getElem?_eq_some_iff.1 hG).2]
  exact ⟨hl, hs⟩
theorem again_tree {H K : List (Nat × List DX)} {r j : Nat} {a b : List Fl} (hr : r < (H.drop j).length) (hs : SameH K (H.drop j)) (ha : IsTree H r a) (hb : IsTree K r b) : a = b :=
  isTree_unique ha hb fun s => by rw [valR_drop s hr, hs.val]
end Go.Proofs.YtlnpabpdgjganaaGreatDoor
