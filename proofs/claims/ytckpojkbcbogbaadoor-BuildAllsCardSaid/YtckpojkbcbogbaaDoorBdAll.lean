/-
  Plain functions for layer 9 (build): all targets of a tree, by rising names; which are built of a file; files that are no BUILD. No program is named here.
-/
import Derived.Test.YtckpojkbcbogbaaDoorBdPlain
namespace Go.Proofs.YtckpojkbcbogbaaDoor
open Go

def isBd (p : Bs) : Bool := baseL p == buildW
def bodyT (f : Fl) : Except Int (List Tg) := if (parseB (dirL f.1) f.2).1 = 0 then .ok (parseB (dirL f.1) f.2).2 else .error (parseB (dirL f.1) f.2).1
def gatherT (t : List Fl) (r : Except Int (List Tg)) : Except Int (List Tg) := t.foldl (fun r f => r.bind fun l => if isBd f.1 then (bodyT f).map (l ++ ·) else .ok l) r
theorem gatherT_cons (f : Fl) (t : List Fl) (r : Except Int (List Tg)) : gatherT (f :: t) r = gatherT t (r.bind fun l => if isBd f.1 then (bodyT f).map (l ++ ·) else .ok l) := rfl
theorem gatherT_err (t : List Fl) (e : Int) : gatherT t (.error e) = .error e := by
  induction t with
  | nil => rfl
  | cons f t ih => rw [gatherT_cons]; exact ih
theorem gatherT_append (a b : List Fl) (r : Except Int (List Tg)) : gatherT (a ++ b) r = gatherT b (gatherT a r) := by unfold gatherT; rw [List.foldl_append]
theorem gatherT_filter : ∀ (t : List Fl) (r : Except Int (List Tg)), gatherT (t.filter (fun f => isBd f.1)) r = gatherT t r
  | [], r => rfl
  | f :: t, r => by
    cases h : isBd f.1 with
    | true => rw [List.filter_cons, if_pos h, gatherT_cons, gatherT_cons, gatherT_filter t]
    | false =>
      rw [List.filter_cons, if_neg (by rw [h]; simp), gatherT_filter t, gatherT_cons]
      congr 1
      cases r with
      | error e => rfl
      | ok l => show Except.ok l = if isBd f.1 then _ else _; rw [h]; rfl

/-! By rising names. -/
def insN (l : List Tg) (x : Tg) : List Tg := l.takeWhile (fun y => !ltB x.n y.n) ++ x :: l.dropWhile (fun y => !ltB x.n y.n)
def sortN (l : List Tg) : List Tg := l.foldl insN []
def leN (x y : Tg) : Prop := ltB y.n x.n = false
theorem leN_trans {x y z : Tg} (h1 : leN x y) (h2 : leN y z) : leN x z := by
  unfold leN at h1 h2 ⊢
  cases h : ltB z.n x.n with
  | false => rfl
  | true =>
    cases e : ltB y.n z.n with
    | true => rw [ltB_trans _ _ _ e h] at h1; exact h1
    | false =>
      have := ltB_tri y.n z.n e h2
      rw [this, h] at h1; cases h1
theorem insN_perm (l : List Tg) (x : Tg) : (insN l x).Perm (x :: l) := by
  unfold insN
  have h := List.takeWhile_append_dropWhile (p := fun y => !ltB x.n y.n) (l := l)
  exact (List.perm_middle).trans (List.Perm.of_eq (by rw [h]))
theorem front_all {α : Type} (p : α → Bool) : ∀ (l : List α) (y : α), y ∈ l.takeWhile p → p y = true
  | [], y, h => by cases h
  | x :: r, y, h => by
    rw [List.takeWhile_cons] at h
    split at h
    · rename_i hx
      rcases List.mem_cons.1 h with rfl | h
      · exact hx
      · exact front_all p r y h
    · cases h
theorem insN_sorted {l : List Tg} (x : Tg) (h : l.Pairwise leN) : (insN l x).Pairwise leN := by
  unfold insN
  have hs := List.takeWhile_append_dropWhile (p := fun y => !ltB x.n y.n) (l := l)
  rw [← hs] at h
  obtain ⟨h1, h2, h3⟩ := List.pairwise_append.1 h
  have ha : ∀ y ∈ l.takeWhile (fun y => !ltB x.n y.n), leN y x := fun y hy => by
    have := front_all _ l y hy
    simpa [leN] using this
  have hb : ∀ y ∈ l.dropWhile (fun y => !ltB x.n y.n), leN x y := fun y hy => by
    cases e : l.dropWhile (fun y => !ltB x.n y.n) with
    | nil => rw [e] at hy; cases hy
    | cons z r =>
      have hz := dropWhile_head _ l z r e
      have hxz : leN x z := by
        unfold leN
        cases h9 : ltB z.n x.n with
        | false => rfl
        | true => have h8 : ltB x.n z.n = true := by simpa using hz
                  rw [ltB_asymm _ _ h8] at h9; cases h9
      rw [e] at hy h2
      rcases List.mem_cons.1 hy with rfl | hy
      · exact hxz
      · exact leN_trans hxz ((List.pairwise_cons.1 h2).1 y hy)
  refine List.pairwise_append.2 ⟨h1, List.pairwise_cons.2 ⟨hb, h2⟩, fun y hy z hz => ?_⟩
  rcases List.mem_cons.1 hz with rfl | hz
  · exact ha y hy
  · exact h3 y hy z hz
theorem sortN_gen : ∀ (l a : List Tg), a.Pairwise leN → (l.foldl insN a).Pairwise leN ∧ (l.foldl insN a).Perm (l ++ a)
  | [], a, h => ⟨h, List.Perm.refl _⟩
  | x :: l, a, h => by
    obtain ⟨h1, h2⟩ := sortN_gen l (insN a x) (insN_sorted x h)
    refine ⟨h1, h2.trans ?_⟩
    exact ((List.Perm.append_left l (insN_perm a x)).trans List.perm_middle)
theorem sortN_sorted (l : List Tg) : (sortN l).Pairwise leN := (sortN_gen l [] List.Pairwise.nil).1
theorem sortN_perm (l : List Tg) : (sortN l).Perm l := by
  have := (sortN_gen l [] List.Pairwise.nil).2
  rwa [List.append_nil] at this
/-- What stands in order, and has each name once, is one row alone. -/
theorem sorted_unique : ∀ (a b : List Tg), a.Pairwise leN → b.Pairwise leN → a.Perm b → (a.map Tg.n).Nodup → a = b
  | [], b, _, _, hp, _ => (List.Perm.nil_eq hp).symm ▸ rfl
  | x :: a, [], _, _, hp, _ => absurd hp.length_eq (by simp)
  | x :: a, y :: b, ha, hb, hp, hn => by
    obtain ⟨a1, a2⟩ := List.pairwise_cons.1 ha
    obtain ⟨b1, b2⟩ := List.pairwise_cons.1 hb
    rw [List.map_cons, List.nodup_cons] at hn
    have hxy : x = y := by
      rcases List.mem_cons.1 (hp.mem_iff.1 (show x ∈ x :: a by simp)) with h | hx
      · exact h
      · rcases List.mem_cons.1 (hp.mem_iff.2 (show y ∈ y :: b by simp)) with h | hy
        · exact h.symm
        · have h1 := a1 y hy
          have h2 := b1 x hx
          exact absurd (List.mem_map.2 ⟨y, hy, (ltB_tri y.n x.n h1 h2)⟩) hn.1
    subst hxy
    rw [sorted_unique a b a2 b2 (List.Perm.cons_inv hp) hn.2]

/-- Are there two of one name? Does one stand on what is not there? -/
def wholeT (l : List Tg) : Int := if (l.map Tg.n).Nodup then (if l.all (fun x => x.d.all (fun d => hasN l d)) then 0 else 13) else 12
theorem hasN_iff (l : List Tg) (n : Bs) : hasN l n = true ↔ n ∈ l.map Tg.n := by
  unfold hasN
  rw [List.any_eq_true, List.mem_map]
  constructor
  · rintro ⟨x, hx, e⟩; exact ⟨x, hx, by simpa using e⟩
  · rintro ⟨x, hx, e⟩; exact ⟨x, hx, by simpa using e⟩
theorem wholeT_perm {a b : List Tg} (h : a.Perm b) : wholeT a = wholeT b := by
  have h1 : (a.map Tg.n).Nodup ↔ (b.map Tg.n).Nodup := (h.map Tg.n).nodup_iff
  have h2 : ∀ n, hasN a n = hasN b n := fun n => by
    rw [Bool.eq_iff_iff, hasN_iff, hasN_iff]; exact (h.map Tg.n).mem_iff
  have h3 : a.all (fun x => x.d.all (fun d => hasN a d)) = b.all (fun x => x.d.all (fun d => hasN b d)) := by
    rw [Bool.eq_iff_iff, List.all_eq_true, List.all_eq_true]
    constructor
    · intro H x hx
      have := H x (h.mem_iff.2 hx)
      simpa [h2] using this
    · intro H x hx
      have := H x (h.mem_iff.1 hx)
      simpa [h2] using this
  unfold wholeT
  rw [h3]
  by_cases e : (a.map Tg.n).Nodup
  · rw [if_pos e, if_pos (h1.1 e)]
  · rw [if_neg e, if_neg (fun e2 => e (h1.2 e2))]
def allT (t : List Fl) : Int × List Tg := match gatherT t (.ok []) with
  | .error e => (e, [])
  | .ok l => if wholeT l = 0 then (0, sortN l) else (wholeT l, [])
/-- All of it, by any order of the targets that rises. -/
theorem allT_sorted {l m : List Tg} (h : m.Perm l) (hs : m.Pairwise leN) (hw : wholeT l = 0) : m = sortN l := by
  have hn : (m.map Tg.n).Nodup := by
    have : wholeT m = 0 := (wholeT_perm h).trans hw
    unfold wholeT at this
    split at this
    · assumption
    · cases this
  exact sorted_unique m (sortN l) hs (sortN_sorted l) (h.trans (sortN_perm l).symm) hn

/-! Files that are no BUILD. -/
theorem base_suffix (s : Bs) : ∃ q, s = q ++ baseL s := by
  refine ⟨((s.reverse.dropWhile (fun c => c != 47))).reverse, ?_⟩
  unfold baseL
  rw [← List.reverse_append, List.takeWhile_append_dropWhile, List.reverse_reverse]
theorem isBd_suffix {p : Bs} (h : isBd p = true) : ∃ q, p = q ++ buildW := by
  obtain ⟨q, hq⟩ := base_suffix p
  have : baseL p = buildW := by simpa [isBd] using h
  exact ⟨q, by rw [← this]; exact hq⟩
theorem filter_insT (t : List Fl) (f : Fl) (p : Fl → Bool) (h : p f = false) : (insT t f).filter p = t.filter p := by
  unfold insT
  rw [List.filter_append, List.filter_cons, if_neg (by rw [h]; simp), ← List.filter_append, List.takeWhile_append_dropWhile]
theorem gather_put (t : List Fl) (f : Fl) (h : isBd f.1 = false) (r : Except Int (List Tg)) : gatherT (putT t f) r = gatherT t r := by
  rw [← gatherT_filter, ← gatherT_filter t]
  congr 1
  unfold putT
  rw [filter_insT _ _ _ h]
  unfold dropT
  rw [List.filter_filter]
  refine List.filter_congr fun x _ => ?_
  cases e : isBd x.1 with
  | false => rfl
  | true =>
    have : (x.1 == f.1) = false := by
      rw [beq_eq_false_iff_ne]; intro he
      rw [he, h] at e; cases e
    rw [this]; rfl
/-- What the law BuildOthers says. -/
theorem allT_other (t : List Fl) (f : Fl) (h : ∀ q, f.1 ≠ q ++ buildW) : allT (putT t f) = allT t := by
  have hb : isBd f.1 = false := by
    cases e : isBd f.1 with
    | false => rfl
    | true => obtain ⟨q, hq⟩ := isBd_suffix e; exact absurd hq (h q)
  unfold allT
  rw [gather_put t f hb]

/-! What all of them are like. -/
def placeT (l : List Tg) (n : Bs) : Int := match l.findIdx? (fun x => x.n == n) with
  | none => -1
  | some i => i
def ofTg (l : List Tg) (s : Bs) : List Bs := (l.filter (fun x => x.s.contains s)).map Tg.n
theorem allT_ok {t : List Fl} (h : (allT t).1 = 0) : (allT t).2.Pairwise (fun x y => ltB x.n y.n = true) ∧ ∀ x ∈ (allT t).2, ∀ d ∈ x.d, hasN (allT t).2 d = true := by
  unfold allT at h ⊢
  cases e : gatherT t (.ok []) with
  | error n =>
    rw [e] at h
    exact ⟨List.Pairwise.nil, fun x hx => by cases hx⟩
  | ok l =>
    rw [e] at h
    by_cases hw : wholeT l = 0
    · simp only [if_pos hw]
      have hw2 : wholeT (sortN l) = 0 := (wholeT_perm (sortN_perm l)).trans hw
      unfold wholeT at hw2
      split at hw2
      · rename_i hn
        split at hw2
        · rename_i hd
          refine ⟨?_, fun x hx d hdx => ?_⟩
          · have h1 := sortN_sorted l
            have h2 : (sortN l).Pairwise (fun x y => x.n ≠ y.n) := by
              have := List.pairwise_map.1 hn
              exact this
            exact (h1.and h2).imp fun {x y} hxy => by
              cases e2 : ltB x.n y.n with
              | true => rfl
              | false => exact absurd (ltB_tri x.n y.n e2 hxy.1) hxy.2
          · exact List.all_eq_true.1 (List.all_eq_true.1 hd x hx) d hdx
        · cases hw2
      · cases hw2
    · simp only [if_neg hw] at h
      exact absurd h hw
theorem allT_wrong {t : List Fl} (h : (allT t).1 ≠ 0) : (allT t).2 = [] := by
  unfold allT at h ⊢
  cases e : gatherT t (.ok []) with
  | error n => rfl
  | ok l =>
    rw [e] at h
    by_cases hw : wholeT l = 0
    · simp only [if_pos hw] at h; exact absurd rfl h
    · simp only [if_neg hw]
/-- In a row that rises each is the first of its name. -/
theorem place_rising {l : List Tg} (h : l.Pairwise (fun x y => ltB x.n y.n = true)) {i : Nat} {x : Tg} (hx : l[i]? = some x) : placeT l x.n = i := by
  have : l.findIdx? (fun y => y.n == x.n) = some i := by
    rw [List.findIdx?_eq_some_iff_getElem]
    obtain ⟨hi, he⟩ := List.getElem?_eq_some_iff.1 hx
    refine ⟨hi, by rw [he]; simp, fun j hj => ?_⟩
    have := List.pairwise_iff_getElem.1 h j i (by omega) hi hj
    rw [he] at this
    simpa using ltB_ne _ _ this
  unfold placeT
  rw [this]
theorem place_has {l : List Tg} {n : Bs} (h : hasN l n = true) : 0 ≤ placeT l n := by
  unfold placeT
  cases e : l.findIdx? (fun x => x.n == n) with
  | some i => exact Int.natCast_nonneg i
  | none =>
    exfalso
    rw [List.findIdx?_eq_none_iff] at e
    unfold hasN at h
    obtain ⟨x, hx, hxe⟩ := List.any_eq_true.1 h
    have := e x hx
    rw [this] at hxe; cases hxe
theorem place_none {l : List Tg} {n : Bs} (h : hasN l n = false) : placeT l n = -1 := by
  unfold placeT
  have : l.findIdx? (fun x => x.n == n) = none := by
    rw [List.findIdx?_eq_none_iff]
    intro x hx
    unfold hasN at h
    have := List.any_eq_false.1 h x hx
    simpa using this
  rw [this]
end Go.Proofs.YtckpojkbcbogbaaDoor
