/-
  Plain: trees whose OWNERS have a name more, or are other ones above or below: whose their files are. No program is named here. · strings.Builder: what its writing methods do here (its copy check stops at a copied one: such a builder is none of these), and a line of words written into one. · slices.Grow, slices.Concat of rows of texts; strings.Join of texts. · owners.Print: the text that tells what an OWNERS file tells. · Plain: what is printed is parsed again; texts with more blanks, and a remark behind. No program is named here. · The law OwnersBack: printed, and parsed again; more blanks, and a remark.
-/
import Derived.Test.YtkihgbggndikpaaGreatDoorOwLawT
import Derived.Test.YtkihgbggndikpaaGreatDoorShelf
import Derived.Test.YtkihgbggndikpaaGreatDoorOwMem
import Derived.Shelf.Strings.BuilderK
import Derived.Lib.Hide
import Derived.Test.YtkihgbggndikpaaGreatDoorOwRefs
import Derived.Test.YtkihgbggndikpaaGreatDoorOwWordsOf
import Derived.Lib.AppendZerosOnto
import Derived.Lib.Join
namespace Go.Proofs.YtkihgbggndikpaaGreatDoor
open Go

/-! Directories upward. -/
theorem ups_underN : ∀ (n : Nat) (d : Bs), d.length ≤ n → ∀ x ∈ ups d, x = d ∨ x = [] ∨ underL d x = true
  | n, d, h, x, hx => by
    rw [ups_step] at hx
    rcases List.mem_cons.1 hx with rfl | hx
    · exact .inl rfl
    · by_cases e : d.isEmpty = true
      · rw [if_pos e] at hx; cases hx
      · rw [if_neg e] at hx
        have h1 := dirL_less (by simpa using e : d.isEmpty = false)
        rcases ups_underN (n - 1) (dirL d) (by omega) x hx with rfl | h2 | h2
        · by_cases hd : dirL d = []
          · exact .inr (.inl hd)
          · exact .inr (.inr (dir_under hd))
        · exact .inr (.inl h2)
        · by_cases hq : x = []
          · exact .inr (.inl hq)
          · by_cases hd : dirL d = []
            · rw [hd, under_nil hq] at h2; cases h2
            · exact .inr (.inr (under_trans hd hq (dir_under hd) h2))
termination_by _n d => d.length
theorem ups_under (s : Bs) : ∀ x ∈ ups (dirL s), underL s x = true := fun x hx => by
  by_cases hq : x = []
  · subst hq; rfl
  · rcases ups_underN (dirL s).length (dirL s) (Nat.le_refl _) x hx with rfl | h | h
    · exact dir_under hq
    · exact absurd h hq
    · by_cases hd : dirL s = []
      · rw [hd, under_nil hq] at h; cases h
      · exact under_trans hd hq (dir_under hd) h
theorem join_inj {d e : Bs} (h : join2 d ownW = join2 e ownW) : d = e := by
  by_cases hd : d = []
  · by_cases he : e = []
    · rw [hd, he]
    · have := congrArg List.length h
      rw [join_len he, hd] at this
      have h6 : (join2 [] ownW).length = 6 := rfl
      omega
  · by_cases he : e = []
    · have := congrArg List.length h
      rw [join_len hd, he] at this
      have h6 : (join2 [] ownW).length = 6 := rfl
      omega
    · unfold join2 at h
      rw [if_neg hd, if_neg (by decide), if_neg he, if_neg (by decide)] at h
      have hl := congrArg List.length h
      simp only [List.length_append, List.length_cons] at hl
      exact (List.append_inj h (by omega)).1

/-! A name more. -/
theorem parseL_fold (a b : List Bs) : parseL (a ++ b) = b.foldl (fun o l => o.bind (tellL · (wordsL l))) (parseL a) := by unfold parseL; rw [List.foldl_append]
theorem parse_more {b n : Bs} (hn : namedB n = true) (h : (parseV (b ++ 10 :: (n ++ [10]))).1 = 0) :
    (parseV b).1 = 0 → parseV (b ++ 10 :: (n ++ [10])) = (0, ((parseV b).2.1, (parseV b).2.2 ++ [([], [n])])) := fun hb => by
  have e3 : ¬ 16384 < (b ++ 10 :: (n ++ [10])).length := fun e => by
    unfold parseV at h; rw [if_pos e] at h; cases h
  have e1 : ¬ 16384 < b.length := fun e => e3 (by rw [List.length_append]; omega)
  unfold parseV at hb ⊢
  rw [if_neg e1] at hb ⊢
  rw [if_neg e3]
  have hs : splitL 10 (n ++ [10]) = [n] ++ [[]] := by
    have := split_body [n] (fun m hm => by simp only [List.mem_singleton] at hm; subst hm; exact hn)
    rwa [show bodyN [n] = n ++ [10] from by unfold bodyN nameB_; simp] at this
  rw [splitY_cat, hs, parseL_fold]
  cases e : parseL (splitL 10 b) with
  | none => rw [e] at hb; cases hb
  | some o =>
    have : ([n] ++ [[]] : List Bs).foldl (fun o l => o.bind (tellL · (wordsL l))) (some o) = some (o.1, o.2 ++ [([], [n])]) := by
      show (tellL o (wordsL n)).bind (tellL · (wordsL [])) = _
      rw [words_named hn, tell_name o hn]
      rfl
    rw [this]
theorem getT_body (t : List Fl) (d : Bs) : atT t d = parseV ((getT t (join2 d ownW)).getD []) := by
  unfold atT
  cases getT t (join2 d ownW) with
  | none => rfl
  | some b => rfl
structure MoreT (t u : List Fl) (dir n : Bs) : Prop where
  other : ∀ d, d ≠ dir → atT u d = atT t d
  here : (atT t dir).1 = 0 → (atT u dir).1 = 0 → atT u dir = (0, ((atT t dir).2.1, (atT t dir).2.2 ++ [([], [n])]))
theorem more_put (t : List Fl) (dir n : Bs) (hn : namedB n = true) : MoreT t (putT t (join2 dir ownW, (getT t (join2 dir ownW)).getD [] ++ 10 :: (n ++ [10]))) dir n := by
  refine ⟨fun d hd => ?_, fun h1 h2 => ?_⟩
  · unfold atT
    rw [get_put_other _ _ (fun e => hd (join_inj e))]
  · have hu : atT (putT t (join2 dir ownW, (getT t (join2 dir ownW)).getD [] ++ 10 :: (n ++ [10]))) dir = parseV ((getT t (join2 dir ownW)).getD [] ++ 10 :: (n ++ [10])) := by
      unfold atT
      rw [get_put t (join2 dir ownW, (getT t (join2 dir ownW)).getD [] ++ 10 :: (n ++ [10]))]
    rw [hu] at h2 ⊢
    rw [getT_body] at h1 ⊢
    exact parse_more hn h2 h1
theorem gather_more (K : List Bs) (ls : List Ln) (n : Bs) (p : Bs → Bool) : gatherS K (ls ++ [([], [n])]) p = addS (gatherS K ls p) n := by
  unfold gatherS
  rw [List.foldl_append]
  rfl
theorem gather_add {K : List Bs} (hK : risingB K) (ls : List Ln) (n : Bs) (p : Bs → Bool) : gatherS (addS K n) ls p = addS (gatherS K ls p) n := by
  refine rising_ext _ _ (gatherS_rising p ls _ (addS_rising n K hK)) (addS_rising n _ (gatherS_rising p ls K hK)) fun x => ?_
  rw [gatherS_mem, addS_mem, addS_mem, gatherS_mem]
  constructor
  · rintro (h | h | h)
    · exact .inr (.inl h)
    · exact .inl h
    · exact .inr (.inr h)
  · rintro (h | h | h)
    · exact .inr (.inl h)
    · exact .inl h
    · exact .inr (.inr h)
theorem add_twice {K : List Bs} (hK : risingB K) (n : Bs) : addS (addS K n) n = addS K n := by
  refine rising_ext _ _ (addS_rising n _ (addS_rising n K hK)) (addS_rising n K hK) fun x => ?_
  rw [addS_mem, addS_mem]
  constructor
  · rintro (h | h)
    · exact .inl h
    · exact h
  · exact .inr
theorem ofStep_more {t u : List Fl} {dir n : Bs} (M : MoreT t u dir n) (home base : Bs) : ∀ (ds K K' : List Bs), risingB K → (K' = K ∨ K' = addS K n) → (ofStep t home base ds K).1 = 0 → (ofStep u home base ds K').1 = 0 →
    (ofStep u home base ds K').2 = (ofStep t home base ds K).2 ∨ (ofStep u home base ds K').2 = addS (ofStep t home base ds K).2 n
  | [], K, K', _, h, _, _ => h
  | d :: ds, K, K', hK, h, h1, h2 => by
    have e1 : (atT t d).1 = 0 := by
      by_cases e : (atT t d).1 = 0
      · exact e
      · rw [ofStep_unfold, if_neg e] at h1; exact absurd h1 e
    have e2 : (atT u d).1 = 0 := by
      by_cases e : (atT u d).1 = 0
      · exact e
      · rw [ofStep_unfold, if_neg e] at h2; exact absurd h2 e
    have hg : (atT u d).2.1 = (atT t d).2.1 ∧ (gatherS K' (atT u d).2.2 (askB home base d) = gatherS K (atT t d).2.2 (askB home base d) ∨ gatherS K' (atT u d).2.2 (askB home base d) = addS (gatherS K (atT t d).2.2 (askB home base d)) n) := by
      by_cases hd : d = dir
      · subst hd
        rw [M.here e1 e2]
        refine ⟨rfl, .inr ?_⟩
        show gatherS K' ((atT t d).2.2 ++ [([], [n])]) _ = _
        rw [gather_more]
        rcases h with rfl | rfl
        · rfl
        · rw [gather_add hK, add_twice (gatherS_rising _ _ _ hK)]
      · rw [M.other d hd]
        refine ⟨rfl, ?_⟩
        rcases h with rfl | rfl
        · exact .inl rfl
        · exact .inr (gather_add hK _ _ _)
    rw [ofStep_unfold, if_pos e1] at h1
    rw [ofStep_unfold, if_pos e2] at h2
    rw [ofStep_unfold u, if_pos e2, ofStep_unfold t, if_pos e1]
    rw [hg.1] at h2 ⊢
    by_cases hp : (atT t d).2.1 = true
    · rw [if_pos hp, if_pos hp]; exact hg.2
    · rw [if_neg hp] at h1 h2 ⊢
      rw [if_neg hp]
      exact ofStep_more M home base ds _ _ (gatherS_rising _ _ _ hK) hg.2 h1 h2
theorem ofStep_same {t u : List Fl} {dir n : Bs} (M : MoreT t u dir n) (home base : Bs) : ∀ (ds K : List Bs), (∀ d ∈ ds, d ≠ dir) → ofStep u home base ds K = ofStep t home base ds K
  | [], _, _ => rfl
  | d :: ds, K, h => by
    rw [ofStep_unfold, ofStep_unfold, M.other d (h d (by simp)), ofStep_same M home base ds _ (fun x hx => h x (by simp [hx]))]
/-- What the law OwnersMore says. -/
theorem ofT_more {t u : List Fl} {dir n : Bs} (M : MoreT t u dir n) (s : Bs) (h1 : (ofT t s).1 = 0) (h2 : (ofT u s).1 = 0) :
    (underL s dir = false → (ofT u s).2 = (ofT t s).2) ∧ ((ofT u s).2 = addS (ofT t s).2 n ∨ (ofT u s).2 = (ofT t s).2) := by
  unfold ofT at h1 h2 ⊢
  by_cases hr : rightB s = true
  · rw [if_pos hr] at h1 h2 ⊢
    rw [if_pos hr]
    refine ⟨fun hu => ?_, (ofStep_more M _ _ _ [] [] List.Pairwise.nil (.inl rfl) h1 h2).symm⟩
    rw [ofStep_same M _ _ _ _ fun d hd e => by rw [e] at hd; rw [ups_under s dir hd] at hu; cases hu]
  · rw [if_neg hr] at h1; cases h1

/-! Above, and below. -/
theorem ofStep_named (t : List Fl) (home base : Bs) : ∀ (ds K : List Bs), (∀ p ∈ K, namedB p = true) → ∀ p ∈ (ofStep t home base ds K).2, namedB p = true
  | [], _, h => h
  | d :: ds, K, h => by
    have hg : ∀ p ∈ gatherS K (atT t d).2.2 (askB home base d), namedB p = true := fun p hp => by
      rcases (gatherS_mem _ _ _ _).1 hp with ⟨y, hy, _, hx⟩ | hp
      · exact ((atT_ok t d).1 y hy).2.2.1 p hx
      · exact h p hp
    rw [ofStep_unfold]
    by_cases e : (atT t d).1 = 0
    · rw [if_pos e]
      by_cases hp : (atT t d).2.1 = true
      · rw [if_pos hp]; exact hg
      · rw [if_neg hp]; exact ofStep_named t home base ds _ hg
    · rw [if_neg e]; intro p hp; cases hp
theorem ofT_named (t : List Fl) (s : Bs) : ∀ p ∈ (ofT t s).2, namedB p = true := by
  unfold ofT
  split
  · exact ofStep_named t _ _ _ [] (fun p hp => by cases hp)
  · intro p hp; cases hp
theorem ofT_rises (t : List Fl) (s : Bs) : risingB (ofT t s).2 := by
  unfold ofT
  split
  · exact ofStep_rising t _ _ _ [] List.Pairwise.nil
  · exact List.Pairwise.nil
theorem ofT_wrong (t : List Fl) (s : Bs) (h : (ofT t s).1 ≠ 0) : (ofT t s).2 = [] := by
  have gen : ∀ (home base : Bs) (ds K : List Bs), (ofStep t home base ds K).1 ≠ 0 → (ofStep t home base ds K).2 = [] := by
    intro home base ds
    induction ds with
    | nil => intro K h; exact absurd rfl h
    | cons d ds ih =>
      intro K h
      rw [ofStep_unfold] at h ⊢
      by_cases e : (atT t d).1 = 0
      · rw [if_pos e] at h ⊢
        by_cases hp : (atT t d).2.1 = true
        · rw [if_pos hp] at h; exact absurd rfl h
        · rw [if_neg hp] at h ⊢; exact ih _ h
      · rw [if_neg e]
  unfold ofT at h ⊢
  split
  · rename_i hr; rw [if_pos hr] at h; exact gen _ _ _ _ h
  · rfl
def meB : Bs := [115, 101, 116, 32, 110, 111, 112, 97, 114, 101, 110, 116, 10, 109, 101, 10]
theorem parse_me : parseV meB = (0, (true, [([], [[109, 101]])])) := by decide +kernel
theorem ofT_me (t : List Fl) (s : Bs) (hr : rightB s = true) : ofT (putT t (join2 (dirL s) ownW, meB)) s = (0, [[109, 101]]) := by
  have ha : atT (putT t (join2 (dirL s) ownW, meB)) (dirL s) = (0, (true, [([], [[109, 101]])])) := by
    unfold atT
    rw [get_put t (join2 (dirL s) ownW, meB)]
    exact parse_me
  unfold ofT
  rw [if_pos hr, ups_step, ofStep_unfold, ha]
  rfl
theorem ofStep_home (t : List Fl) (h1 b1 h2 b2 : Bs) : ∀ (ds K : List Bs), (∀ d ∈ ds, d ≠ h1 ∧ d ≠ h2) → ofStep t h1 b1 ds K = ofStep t h2 b2 ds K
  | [], _, _ => rfl
  | d :: ds, K, h => by
    have e1 : ∀ g, askB h1 b1 d g = false := fun g => by unfold askB; rw [beq_eq_false_iff_ne.2 (h d (by simp)).1]; rfl
    have e2 : ∀ g, askB h2 b2 d g = false := fun g => by unfold askB; rw [beq_eq_false_iff_ne.2 (h d (by simp)).2]; rfl
    have e : askB h1 b1 d = askB h2 b2 d := funext fun g => (e1 g).trans (e2 g).symm
    rw [ofStep_unfold, ofStep_unfold, e, ofStep_home t h1 b1 h2 b2 ds _ (fun x hx => h x (by simp [hx]))]
def zzW : Bs := [122, 122]
def zzO : Bs := [122, 122, 47, 79, 87, 78, 69, 82, 83]
theorem zz_join {dir : Bs} (hd : dir ≠ []) : join2 (dir ++ 47 :: zzW) ownW = join2 dir zzO := by
  unfold join2
  rw [if_neg (by simp), if_neg (by decide), if_neg hd, if_neg (by decide), List.append_assoc]
  rfl
theorem zz_name {dir name : Bs} (hd : dir ≠ []) : join2 dir ([122, 122, 47] ++ name) = dir ++ 47 :: (zzW ++ 47 :: name) := by
  unfold join2
  rw [if_neg hd, if_neg (by simp)]
  rfl
theorem right_zz {dir name : Bs} (hr : rightB (dir ++ 47 :: name) = true) (hl : (dir ++ 47 :: name).length ≤ 80) : rightB (dir ++ 47 :: (zzW ++ 47 :: name)) = true := by
  unfold rightB partsB at hr ⊢
  rw [splitY_cat, List.all_append, Bool.and_eq_true, Bool.and_eq_true] at hr
  rw [splitY_cat, splitY_cat, List.all_append, List.all_append, hr.2.1, hr.2.2]
  have h1 : (splitL 47 zzW).all nameB = true := by decide
  rw [h1]
  have h2 : (dir ++ 47 :: (zzW ++ 47 :: name)).length ≤ 100 := by
    simp only [List.length_append, List.length_cons] at hl ⊢
    have : zzW.length = 2 := rfl
    omega
  rw [decide_eq_true h2]; rfl
theorem drop_at (t : List Fl) (d : Bs) : atT (dropT t (join2 d ownW)) d = (0, emptyO) := by
  unfold atT
  rw [get_none (hasT_drop_self t _)]
theorem drop_at_other (t : List Fl) (d : Bs) {p : Bs} (h : join2 d ownW ≠ p) : atT (dropT t p) d = atT t d := by
  unfold atT
  rw [get_drop_other t h]
/-- What the law OwnersUp says last: a file of a directory, and one of its name in one below. -/
theorem ofT_zz (t : List Fl) {dir name : Bs} (hd : dir ≠ []) (hn : ∀ c ∈ name, c ≠ 47) (hr : rightB (dir ++ 47 :: name) = true) (hl : (dir ++ 47 :: name).length ≤ 80) :
    ofT (dropT (dropT t (join2 dir ownW)) (join2 dir zzO)) (dir ++ 47 :: name) = ofT (dropT (dropT t (join2 dir ownW)) (join2 dir zzO)) (dir ++ 47 :: (zzW ++ 47 :: name)) := by
  have hne : dir.isEmpty = false := by
    cases dir with
    | nil => exact absurd rfl hd
    | cons _ _ => rfl
  have hz : (dir ++ 47 :: zzW).isEmpty = false := by cases dir <;> rfl
  have d1 : dirL (dir ++ 47 :: name) = dir := dirL_slash dir name hn
  have d2 : dirL (dir ++ 47 :: (zzW ++ 47 :: name)) = dir ++ 47 :: zzW := by
    rw [show dir ++ 47 :: (zzW ++ 47 :: name) = (dir ++ 47 :: zzW) ++ 47 :: name from by simp]
    exact dirL_slash _ name hn
  have d3 : dirL (dir ++ 47 :: zzW) = dir := dirL_slash dir zzW (by decide)
  have a1 : atT (dropT (dropT t (join2 dir ownW)) (join2 dir zzO)) dir = (0, emptyO) := by
    rw [drop_at_other _ _ (fun e => ?_)]
    · exact drop_at _ _
    · have := congrArg List.length e
      rw [join_len hd] at this
      unfold join2 at this
      rw [if_neg hd, if_neg (by decide), List.length_append, List.length_cons] at this
      have h9 : zzO.length = 9 := rfl
      omega
  have a2 : atT (dropT (dropT t (join2 dir ownW)) (join2 dir zzO)) (dir ++ 47 :: zzW) = (0, emptyO) := by
    rw [← zz_join hd]; exact drop_at _ _
  unfold ofT
  rw [if_pos hr, if_pos (right_zz hr hl), d1, d2, ups_step (dir ++ 47 :: zzW), ofStep_unfold (d := dir ++ 47 :: zzW), a2]
  simp only [if_true, emptyO, Bool.false_eq_true, if_false, hz]
  rw [d3]
  have g0 : ∀ (p : Bs → Bool), gatherS [] [] p = [] := fun _ => rfl
  rw [g0, ups_step dir, ofStep_unfold, ofStep_unfold, a1]
  simp only [if_true, emptyO, Bool.false_eq_true, if_false, hne]
  rw [g0, g0]
  refine ofStep_home _ _ _ _ _ _ _ fun d hx => ?_
  have := ups_small (dirL dir).length (dirL dir) (Nat.le_refl _) d hx
  have h3 := dir_shorter hd
  refine ⟨fun e => ?_, fun e => ?_⟩
  · rw [e] at this; omega
  · rw [e, List.length_append, List.length_cons] at this; omega
end Go.Proofs.YtkihgbggndikpaaGreatDoor
namespace Go.Proofs.YtkihgbggndikpaaGreatDoor
open Go Go.RowKit Go.Shelf Go.Proofs
attribute [local go_sem] Oper.semAt_some

theorem sb_size : (Tryz.prog.info? 77).map (·.size) = some 2 := by kernel_rfl
theorem sb_u8 : (Tryz.prog.info? 5).map (fun i => (i.zero, i.size, i.bytes)) = some (some (.int .u8 0), 1, 1) := by kernel_rfl
abbrev BuiltF (B b : Nat) (bs : List Value) (w : World) : Prop := Lib.IsBuilderF 77 5 B b bs w

theorem built_below {B b : Nat} {bs : List Value} {w w' : World} (h : BuiltF B b bs w) (hb : Below w.heap.size w w') : BuiltF B b bs w' := by
  have gen : ∀ p, Lib.BuilderAtF 77 5 B b p bs w → Lib.BuilderAtF 77 5 B b p bs w' := fun p h => by
    obtain ⟨hB, v, hk, hown, hne⟩ := h
    have hlt := (Array.getElem?_eq_some_iff.1 hk).1
    exact ⟨hB, v, (hb.block b hlt).trans hk, hown.kept (row := none) ⟨hb.os, hb.tape, hb.output, hb.size, fun i hi _ => hb.block i hi⟩ (by cases v.ownBlock <;> simp), hne⟩
  exact h.imp (gen _) (gen _)
theorem built_lt {B b : Nat} {bs : List Value} {w : World} (h : BuiltF B b bs w) : b < w.heap.size := by
  rcases h with h | h
  · exact h.lt
  · exact h.lt
theorem built_new {B b : Nat} {w : World} (hB : B ≤ b) (h : w.heap[b]? = some (.cells #[.pointer none, .slice none 0 0] 77 (0, 0))) : BuiltF B b [] w := .inl ⟨hB, _, h, World.ownsRowF_nil _ _ _ _, by simp [Value.ownBlock]⟩

set_option maxRecDepth 100000 in
theorem sb_used (b : Nat) (w : World) (h0 : w.cell? ⟨b, 0, none⟩ = some (.pointer (some ⟨b, 0, none⟩))) :
    Calls Tryz.prog 81 #[.pointer (some ⟨b, 0, none⟩)] w fun e w' => e = .returned (.tuple #[]) ∧ w' = w := by
  obtain ⟨j, hj, _⟩ := Option.map_eq_some_iff.1 sb_size
  go_enter Tryz.func81, Tryz.ntmps81
  go_wp2_with fail
  rw [Lib.run_neq_ptr_same w _ Tryz.underlying75 hj]
  go_wp2_with fail
  go_end0
  exact ⟨rfl, rfl⟩
set_option maxRecDepth 100000 in
theorem sb_fresh (b : Nat) (w : World) (h0 : w.cell? ⟨b, 0, none⟩ = some (.pointer none)) (hsh : w.shape? b = some (77, 2)) (hfz : w.frozen? ⟨b, 0, none⟩ = false) :
    Calls Tryz.prog 81 #[.pointer (some ⟨b, 0, none⟩)] w fun e w' => e = .returned (.tuple #[]) ∧ w' = w.setCell ⟨b, 0, none⟩ (.pointer (some ⟨b, 0, none⟩)) := by
  obtain ⟨j, hj, hjs⟩ := Option.map_eq_some_iff.1 sb_size
  go_enter Tryz.func81, Tryz.ntmps81
  go_wp2_with fail
  rw [Lib.run_to_unsafe w ⟨b, 0, none⟩ Tryz.underlying75 Tryz.underlying117 hj (by rw [hjs]; decide) hsh (Nat.zero_lt_succ 1)]
  simp only [Result.andThen]
  rw [Oper.upon_value]
  go_wp2_with fail
  rw [run_callFunc_extern Tryz.func106 (by kernel_rfl) (by kernel_rfl) (by kernel_rfl) (e := Extern.AbiNoEscape.same) (by kernel_rfl)]
  rw [Lib.run_noEscape]
  simp only [Result.andThen]
  rw [Oper.upon_value]
  go_wp2_with fail
  rw [Lib.run_from_unsafe w ⟨b, 0, none⟩ Tryz.underlying117 Tryz.underlying75 hj hsh (by kernel_rfl)]
  simp only [Result.andThen]
  rw [Oper.upon_value]
  go_wp2_with fail
  go_end0
  exact ⟨rfl, rfl⟩
theorem sb_check (B b : Nat) (bs : List Value) (w : World) (h : BuiltF B b bs w) :
    Calls Tryz.prog 81 #[.pointer (some ⟨b, 0, none⟩)] w fun e w' => e = .returned (.tuple #[]) ∧ Lib.BuilderAtF 77 5 B b (.pointer (some ⟨b, 0, none⟩)) bs w' ∧ Below B w w' := by
  rcases h with h | h
  · refine (sb_fresh b w h.cell0 h.shape h.frozen0).mono ?_
    rintro e w' ⟨rfl, rfl⟩
    exact ⟨rfl, h.used _, (Below.refl B w).setCell (p := ⟨b, 0, none⟩) h.1 _⟩
  · refine (sb_used b w h.cell0).mono ?_
    rintro e w' ⟨rfl, rfl⟩
    exact ⟨rfl, h, Below.refl B _⟩

set_option maxRecDepth 100000 in
set_option maxHeartbeats 2000000 in
theorem sb_byte (B b : Nat) (bs : List Value) (c : Int) (w : World) (h : BuiltF B b bs w) (hlen : bs.length + 1 ≤ 140737488355328) (hBw : B ≤ w.heap.size) :
    Calls Tryz.prog 48 #[.pointer (some ⟨b, 0, none⟩), .int .u8 c] w fun e w' => e = .returned .nilIface ∧ BuiltF B b (bs ++ [.int .u8 c]) w' ∧ Below B w w' := by
  obtain ⟨i0, hi, hz0, hz1, hz2⟩ := info_parts sb_u8
  have HC := Lib.hid (sb_check B b bs w h)
  clear h
  go_enter Tryz.func48, Tryz.ntmps48
  go_wp2_with fail
  refine HC.out.mono ?_
  rintro e w1 ⟨rfl, h1, hb1⟩
  obtain ⟨hB, v, hbk, hown, hne⟩ := h1
  have c1 : w1.cell? ⟨b, 1, none⟩ = some v := by rw [Lib.cell_of_heap hbk]; rfl
  have hbs := hb1.size
  go_wp2_with (at_builtin; refine wpList_append_ownF _ rfl _ _ 50 rfl B 5 i0 (.int .u8 0) 1 1 Tryz.underlying50 hi hz0 hz1 hz2 rfl (by decide) _ _ _ rfl (hown.alloc _) ⟨w1.heap.size, 0, none⟩ 1 1 [.int .u8 c] rfl rfl ?c1 ?c2 ?c3 ?c4 ?c5 ?_)
  case c1 =>
    intro j u hj
    match j, hj with
    | 0, hj => simp at hj; subst hj; simp [Addr.add]
  case c2 => intro u hu; simp at hu; subst hu; rfl
  case c3 => unfold maxLen; omega
  case c4 => omega
  case c5 => simp; omega
  intro v' w2 hown' hgrow _
  have hlt : b < w1.heap.size := (Array.getElem?_eq_some_iff.1 hbk).1
  have hb2 : w2.heap[b]? = some (.cells #[.pointer (some ⟨b, 0, none⟩), v] 77 (0, 0)) := by
    rw [hgrow.block b (by simp; omega) (fun e => hne e.symm), Lib.alloc_old w1 _ b hlt]
    exact hbk
  have d1 : w2.cell? ⟨b, 1, none⟩ = some v := by rw [Lib.cell_of_heap hb2]; rfl
  have f1 : w2.frozen? ⟨b, 1, none⟩ = false := Lib.frozen_of_heap hb2 1
  obtain ⟨g, cap, rfl⟩ : ∃ g cap, v' = .slice (some ⟨g, 0, none⟩) (bs.length + 1) cap := by
    rcases hown'.2 with ⟨_, h0⟩ | ⟨g, cap, cur, fz, hv, _⟩
    · omega
    · exact ⟨g, cap, hv⟩
  clear c1
  go_wp2_with fail
  go_ret
  exact ⟨rfl, .inr (Lib.BuilderAtF.put (T := 77) (e := 5) hB hb2 (bs' := bs ++ [.int .u8 c]) (by simpa using hown') (by decide)), ((hb1.alloc (by omega) _).grown hgrow (by simp; omega) (fun k hk => (hown.lt k hk).1)).setCell (p := ⟨b, 1, none⟩) hB _⟩

set_option maxRecDepth 100000 in
set_option maxHeartbeats 2000000 in
theorem sb_string (B b : Nat) (bs : List Value) (s : ByteArray) (w : World) (h : BuiltF B b bs w) (hlen : bs.length + s.size ≤ 140737488355328) (hBw : B ≤ w.heap.size) :
    Calls Tryz.prog 46 #[.pointer (some ⟨b, 0, none⟩), .string s] w fun e w' => e = .returned (.tuple #[.int .i64 s.size, .nilIface]) ∧ BuiltF B b (bs ++ Lib.strCells s) w' ∧ Below B w w' := by
  obtain ⟨i0, hi, hz0, hz1, hz2⟩ := info_parts sb_u8
  have HC := Lib.hid (sb_check B b bs w h)
  clear h
  go_enter Tryz.func46, Tryz.ntmps46
  go_wp2_with fail
  refine HC.out.mono ?_
  rintro e w1 ⟨rfl, h1, hb1⟩
  obtain ⟨hB, v, hbk, hown, hne⟩ := h1
  have c1 : w1.cell? ⟨b, 1, none⟩ = some v := by rw [Lib.cell_of_heap hbk]; rfl
  have hbs := hb1.size
  go_wp2_with (at_builtin; refine Lib.wpList_append_own_stringF _ rfl _ _ 50 9 rfl B 5 i0 Tryz.underlying50 Tryz.underlying9 hi hz0 hz1 hz2 _ _ _ rfl hown s rfl ?c3 ?c4 ?c5 ?_)
  case c3 => unfold maxLen; omega
  case c4 => omega
  case c5 => omega
  intro v' w2 hown' hgrow _
  have hlt : b < w1.heap.size := (Array.getElem?_eq_some_iff.1 hbk).1
  have hb2 : w2.heap[b]? = some (.cells #[.pointer (some ⟨b, 0, none⟩), v] 77 (0, 0)) := by
    rw [hgrow.block b hlt (fun e => hne e.symm)]
    exact hbk
  have d1 : w2.cell? ⟨b, 1, none⟩ = some v := by rw [Lib.cell_of_heap hb2]; rfl
  have f1 : w2.frozen? ⟨b, 1, none⟩ = false := Lib.frozen_of_heap hb2 1
  obtain ⟨ao, n', cap, rfl⟩ : ∃ ao n' cap, v' = .slice ao n' cap := by
    rcases hown'.2 with ⟨hv, _⟩ | ⟨g, cap, cur, fz, hv, _⟩
    · exact ⟨_, _, _, hv⟩
    · exact ⟨_, _, _, hv⟩
  clear c1
  go_wp2_with fail
  go_ret2
  exact ⟨rfl, .inr (Lib.BuilderAtF.put (T := 77) (e := 5) hB hb2 (bs' := bs ++ Lib.strCells s) (by simpa [Lib.strCells_length] using hown') (by decide)), (hb1.grown hgrow (by omega) (fun k hk => (hown.lt k hk).1)).setCell (p := ⟨b, 1, none⟩) hB _⟩
end Go.Proofs.YtkihgbggndikpaaGreatDoor
namespace Go.Proofs.YtkihgbggndikpaaGreatDoor
open Go Go.RowKit Go.Shelf Go.Proofs
attribute [local go_sem] Oper.semAt_some

theorem wp_growS {o : Oper} {a : Act} {w : World} {K : Act → World → Prop} {Q : Exit → Act → World → Prop} (s x : Operand) (n : Nat) (h0 : 0 < n) (hn : n ≤ 1000000)
    (ho : o.op = .call { callee := .builtin .append, args := #[s, x], argTypes := #[39, 3] }) (hs : a.eval s = .slice none 0 0) (hx : a.eval x = .int .i64 n)
    (h : ∀ cp w', n ≤ cp → cp ≤ maxLen → w'.ownsRow w.heap.size 9 1 (.slice (some ⟨w.heap.size, 0, none⟩) 0 cp) 0 (strVs []) → Below w.heap.size w w' → K (a.put o.dst (.slice (some ⟨w.heap.size, 0, none⟩) n cp)) w') : Oper.wp Tryz.prog o a w K Q := by
  obtain ⟨i0, hi, hz0, hz1, hz2⟩ := info_parts string_info
  have hr := Lib.run_append_grow_zeros (P := Tryz.prog) w 39 3 o.type 9 i0 (.string ⟨#[]⟩) .i64 .i64 Tryz.underlying39 Tryz.underlying3 hi hz0 none 0 0 [] (by simp [Builtin.firstCells]) n h0 (by omega) (by omega) (by omega) (by rw [hz2]; omega) (by rw [hz2]; unfold Builtin.nextslicecap; rw [if_pos (by omega)]; omega)
  have hg := grownCap_ge w (0 + n) 0 9
  have hm := grownCap_le_maxLen w (0 + n) 0 9 (by unfold maxLen; omega)
  generalize grownCap w (0 + n) 0 9 = cp at *
  unfold Oper.wp execOp
  simp only [ho, resolve, invoke, builtin, Sem.run_bind, Sem.run_pure, Result.andThen_ok, List.map_toArray, List.map_cons, List.map_nil, hs, hx, hr]
  rw [Nat.zero_add]
  refine h cp _ (by omega) hm (World.ownsRow_made w.drew _ cp (Nat.le_refl _) hm ?_) ((Below.refl _ w).drew.alloc (by simp) _)
  simp [size_zeroCells, Value.cells]
  omega
theorem wpList_growS {ops : Array Oper} {rest : List Oper} {o : Oper} {a : Act} {w : World} {Q : Exit → Act → World → Prop} (hgd : o.guard = none) (s x : Operand) (n : Nat) (h0 : 0 < n) (hn : n ≤ 1000000)
    (ho : o.op = .call { callee := .builtin .append, args := #[s, x], argTypes := #[39, 3] }) (hs : a.eval s = .slice none 0 0) (hx : a.eval x = .int .i64 n)
    (h : ∀ cp w', n ≤ cp → cp ≤ maxLen → w'.ownsRow w.heap.size 9 1 (.slice (some ⟨w.heap.size, 0, none⟩) 0 cp) 0 (strVs []) → Below w.heap.size w w' → wpList Tryz.prog ops Q rest (a.put o.dst (.slice (some ⟨w.heap.size, 0, none⟩) n cp)) w') : wpList Tryz.prog ops Q (o :: rest) a w :=
  wpList_plain hgd fun _ hK => wp_growS s x n h0 hn ho hs hx fun cp w' h1 h2 h3 h4 => hK _ _ (h cp w' h1 h2 h3 h4)

set_option maxHeartbeats 2000000 in
theorem growS_any (n : Nat) (h0 : 0 < n) (hn : n ≤ 1000000) (w : World) :
    Calls Tryz.prog 83 #[.slice none 0 0, .int .i64 n] w fun e w' => ∃ v, e = .returned v ∧ w'.ownsRow w.heap.size 9 1 v 0 (strVs []) ∧ Below w.heap.size w w' := by
  have q0 : ((n : Int) < 0) = False := eq_false (by omega)
  have q1 : (0 : Int) < (n : Int) := by omega
  go_enter Tryz.func83, Tryz.ntmps83
  go_wp2_with (at_builtin; refine wpList_growS rfl _ _ n h0 hn rfl rfl rfl ?_; intro cp w1 hc1 hc2 hown hb)
  have q2 : (0 : Int) ≤ (cp : Int) := by omega
  go_wp2_with fail
  go_ret
  exact ⟨_, rfl, hown, hb⟩

/-- A row of texts, as it lies in a row of such. -/
structure RX where
  A : Option Addr
  c : Nat
  l : List Bs
instance : Inhabited RX := ⟨⟨none, 0, []⟩⟩
def catS (L : List RX) (k : Nat) : List Bs := ((L.take k).map RX.l).flatten
theorem catS_next {L : List RX} {k : Nat} {x : RX} (hx : L[k]? = some x) : catS L (k + 1) = catS L k ++ x.l := by
  unfold catS
  rw [List.take_add_one, hx, List.map_append, List.flatten_append]
  simp
theorem catS_le (L : List RX) (k : Nat) : (catS L k).length ≤ (catS L L.length).length := by
  unfold catS
  rw [List.take_length]
  conv => rhs; rw [← List.take_append_drop k L]
  rw [List.map_append, List.flatten_append, List.length_append]
  omega
set_option maxHeartbeats 4000000 in
theorem concatS_any (L : List RX) (g o c : Nat) (w : World) (hr : ∀ j x, L[j]? = some x → w.cell? ⟨g, o + j, none⟩ = some (.slice x.A x.l.length x.c)) (hg : g < w.heap.size) (hs : ∀ x ∈ L, StrsAt w x.A x.l) (hL : L.length ≤ 1000) (h0 : 0 < (catS L L.length).length) (hl : (catS L L.length).length ≤ 1000000) :
    Calls Tryz.prog 49 #[.slice (some ⟨g, o, none⟩) L.length c] w fun e w' => ∃ A c', e = .returned (.slice A (catS L L.length).length c') ∧ StrsAt w' A (catS L L.length) ∧ (catS L L.length).length ≤ c' ∧ c' ≤ maxLen ∧ Below w.heap.size w w' := by
  have hle := catS_le L
  have HR := Lib.hid hr; clear hr
  have HS := Lib.hid hs; clear hs
  have HLE := Lib.hid hle; clear hle
  obtain ⟨T, hT⟩ : ∃ T, catS L L.length = T := ⟨_, rfl⟩
  have HT := Lib.hid hT
  rw [hT] at h0 hl HLE ⊢
  clear hT
  have HG := Lib.hid (growS_any T.length h0 hl)
  go_enter Tryz.func49, Tryz.ntmps49
  go_wp2_with fail
  go_loopw [3, 11] (fun v i wr => ∃ (k : Nat), k ≤ L.length ∧ v = .int .i64 (catS L k).length ∧ i = .int .i64 k ∧ wr = w) (fun _ i _ => L.length - (intOf i).toNat)
  case atStart => exact ⟨0, Nat.zero_le _, rfl, rfl, by trivial⟩
  case round =>
    obtain ⟨k, hk, rfl, rfl, hw⟩ := hrel
    have hw := hw.symm
    subst hw
    by_cases h1 : k < L.length
    · obtain ⟨x, hx⟩ : ∃ x, L[k]? = some x := ⟨_, List.getElem?_eq_getElem h1⟩
      have c1 := HR.out k x hx
      have k1 : (k : Int) < (L.length : Int) := by omega
      have hn := catS_next hx
      have hle := HLE.out (k + 1)
      have e1 : (catS L (k + 1)).length = (catS L k).length + x.l.length := by rw [hn, List.length_append]
      have HE := Lib.hid e1
      rw [e1] at hle
      generalize (catS L k).length = V at *
      generalize T.length = M at *
      have q0 : ((V : Int) + (x.l.length : Int) < 0) = False := eq_false (by omega)
      clear hn hx e1 HG
      go_wp2_with fail
      go_roundw
      case rel => exact ⟨k + 1, by omega, by rw [HE.out]; go_num, by go_num, by trivial⟩
      case measure => simp [intOf]; omega
    · obtain rfl : k = L.length := by omega
      have HG1 := Lib.hid (HG.out w)
      clear HG
      rw [HT.out]
      go_wp2_with fail
      refine HG1.out.mono ?_
      clear HG1
      rintro e w1 ⟨v1, rfl, hown1, hb1⟩
      go_wp2_with fail
      go_loopw [6, 8, 27] (fun v f i wr => ∃ (k : Nat), k ≤ L.length ∧ i = .int .i64 k ∧ Hid (wr.ownsRow w.heap.size 9 1 v (catS L k).length (strVs (catS L k))) ∧ Below w.heap.size w wr) (fun _ _ i _ => L.length - (intOf i).toNat)
      case atStart => exact ⟨0, Nat.zero_le _, rfl, hown1, hb1⟩
      case round =>
        clear hown1 hb1
        obtain ⟨k, hk, rfl, HO, hbr⟩ := hrel
        by_cases h2 : k < L.length
        · obtain ⟨x, hx⟩ : ∃ x, L[k]? = some x := ⟨_, List.getElem?_eq_getElem h2⟩
          have c1 := (hbr.cell (p := ⟨g, o + k, none⟩) hg).trans (HR.out k x hx)
          have k1 : (k : Int) < (L.length : Int) := by omega
          have hn := catS_next hx
          have hle := HLE.out (k + 1)
          have HX := Lib.hid ((HS.out x (List.mem_of_getElem? hx)).below hbr)
          rw [hn, List.length_append] at hle
          have HNX := Lib.hid hn
          have hlen : (catS L k).length + x.l.length ≤ 2000000000000 := by omega
          have hsz := hbr.size
          obtain ⟨xl, hxl⟩ : ∃ xl, x.l.length = xl := ⟨_, rfl⟩
          rw [hxl] at c1 hle
          have HXL := Lib.hid hxl
          clear hx hn hxl
          go_wp2_with (at_builtin; refine wpList_append_strs rfl _ _ rfl w.heap.size _ (catS L k) x.l _ _ xl _ rfl HXL.out rfl HO.out rfl HX.out hlen hsz ?_; intro v2 w2 hown2 hgrow2)
          have hb2 := hbr.trans (below_grow HO.out hgrow2 hsz)
          rw [← HXL.out, ← List.length_append, ← HNX.out] at hown2
          go_wp2_with fail
          go_roundw
          case rel => exact ⟨k + 1, by omega, by go_num, hown2, hb2⟩
          case measure => simp [intOf]; omega
        · obtain rfl : k = L.length := by omega
          have hO := HO.out
          rw [HT.out] at hO
          obtain ⟨A2, c2, hv2, hst, hc2, hm2⟩ := strsT_own hO rfl
          subst hv2
          go_wp2_with fail
          go_ret
          exact ⟨A2, c2, rfl, hst.at_, hc2, hm2, hbr⟩

/-- Texts, joined by a blank. -/
def joinS : List Bs → Bs
  | [] => []
  | x :: r => x ++ r.flatMap (fun n => 32 :: n)
theorem joinS_lib (l : List Bs) : Lib.join l [32] = joinS l := by
  cases l with
  | nil => rfl
  | cons x r =>
    rw [Lib.join_cons]
    unfold joinS
    congr 1
theorem joinS_any (l : List Bs) (A : Option Addr) (c : Nat) (w : World) (h : StrsAt w A l) (hc : l.length ≤ c) (hl : l.length ≤ 1000000) (hj : (joinS l).length ≤ 1000000000) :
    Calls Tryz.prog 47 #[.slice A l.length c, .string ⟨#[32]⟩] w fun e w' => e = .returned (.string (mkB (joinS l))) ∧ Below w.heap.size w w' := by
  cases l with
  | nil =>
    refine (Tryz.strings_Join_none A c ⟨#[32]⟩ w).mono ?_
    rintro e w' ⟨rfl, rfl⟩
    exact ⟨rfl, Below.refl _ _⟩
  | cons x r =>
    obtain ⟨g, o, rfl, hcl⟩ := h (by simp)
    have hg : g < w.heap.size := World.block_lt_of_cell? w (a := ⟨g, o + 0, none⟩) (hcl 0 x rfl)
    have e1 : ((x :: r).map mkB).map (·.data.toList) = x :: r := by
      rw [List.map_map]
      conv => rhs; rw [← List.map_id (x :: r)]
      exact List.map_congr_left fun y _ => mkB_data y
    have h1 := Tryz.strings_Join g o c ((x :: r).map mkB) ⟨#[32]⟩ w (fun j y hy => by
      rw [List.getElem?_map] at hy
      obtain ⟨z, hz, rfl⟩ := Option.map_eq_some_iff.1 hy
      exact hcl j z hz) hg (by rw [List.length_map]; omega) (by rw [List.length_map]; exact hc) (by rw [e1]; show (Lib.join _ [32]).length ≤ _; rw [joinS_lib]; omega)
    rw [e1, List.length_map] at h1
    refine h1.mono ?_
    rintro e w' ⟨rfl, hb⟩
    refine ⟨?_, hb⟩
    show Ending.returned (.string ⟨(Lib.join _ [32]).toArray⟩) = _
    rw [joinS_lib]; rfl

set_option maxHeartbeats 2000000 in
/-- A line of words, written. -/
theorem oline_any (B b : Nat) (t : Bs) (l : List Bs) (A : Option Addr) (c : Nat) (w : World) (hb : BuiltF B b (Lib.byteCells t) w) (hB : B ≤ w.heap.size) (h : StrsAt w A l) (hc : l.length ≤ c) (hl : l.length ≤ 1000000) (ht : t.length ≤ 1000000000) (hj : (joinS l).length ≤ 1000000000) :
    Calls Tryz.prog 45 #[.slice A l.length c, .pointer (some ⟨b, 0, none⟩)] w fun e w' => e = .returned (.tuple #[]) ∧ BuiltF B b (Lib.byteCells (t ++ (joinS l ++ [10]))) w' ∧ Below B w w' := by
  have HJ := Lib.hid (joinS_any l A c w h hc hl hj)
  have HB := Lib.hid hb
  obtain ⟨J, hJ⟩ : ∃ J, joinS l = J := ⟨_, rfl⟩
  rw [hJ] at HJ hj ⊢
  clear h hJ hb
  go_enter Tryz.func45, Tryz.ntmps45
  go_wp2_with fail
  refine HJ.out.mono ?_
  rintro e w1 ⟨rfl, hb1⟩
  have hB1 : Below B w w1 := hb1.mono hB
  have HB1 : Hid (BuiltF B b (Lib.byteCells t) w1) := Lib.hid (built_below HB.out hb1)
  have HS := Lib.hid (sb_string B b (Lib.byteCells t) (mkB J) w1 HB1.out (by rw [Lib.byteCells_length, mkB_size]; omega) (Nat.le_trans hB hb1.size))
  go_wp2_with fail
  refine HS.out.mono ?_
  rintro e w2 ⟨rfl, hbu2, hb2⟩
  have hs2 := hb2.size
  have HY := Lib.hid (sb_byte B b _ 10 w2 hbu2 (by rw [List.length_append, Lib.byteCells_length, Lib.strCells_length, mkB_size]; omega) (by have := hb1.size; omega))
  clear hbu2
  go_wp2_with fail
  refine HY.out.mono ?_
  rintro e w3 ⟨rfl, hbu3, hb3⟩
  go_wp2_with fail
  go_end0
  refine ⟨rfl, ?_, (hB1.trans (hb2.mono (Nat.le_refl _))).trans (hb3.mono (Nat.le_refl _))⟩
  rw [Lib.byteCells_append, Lib.byteCells_append, ← List.append_assoc]
  rw [Lib.strCells_eq, mkB_data] at hbu3
  exact hbu3
end Go.Proofs.YtkihgbggndikpaaGreatDoor
namespace Go.Proofs.YtkihgbggndikpaaGreatDoor
open Go Go.RowKit Go.Shelf Go.Proofs
attribute [local go_sem] Oper.semAt_some

theorem flat_le (f : Bs → Bs) (hf : ∀ n, 0 < (f n).length) : ∀ l : List Bs, l.length ≤ (l.flatMap f).length
  | [] => Nat.zero_le _
  | n :: r => by
    have h1 := hf n
    have ih := flat_le f hf r
    rw [List.flatMap_cons, List.length_append, List.length_cons]
    omega
theorem ns_glob (g : Bs) (ns : List Bs) (h : g.isEmpty = false) : ns.length + 9 ≤ (lineP (g, ns)).length := by
  obtain ⟨F, hF⟩ : ∃ F, ns.flatMap (fun n : Bs => (32 : UInt8) :: n) = F := ⟨_, rfl⟩
  have h1 : ns.length ≤ F.length := by rw [← hF]; exact flat_le _ (fun n => by simp) ns
  have e : lineP (g, ns) = perW ++ 32 :: g ++ F ++ [10] := by
    rw [← hF]; unfold lineP; rw [h, if_neg (by simp)]
  have h8 : perW.length = 8 := rfl
  rw [e, List.length_append, List.length_append, List.length_append, List.length_cons, List.length_singleton]
  omega
theorem line_glob (g : Bs) (ns : List Bs) (h : g.isEmpty = false) : joinS (perW :: g :: ns) ++ [10] = lineP (g, ns) := by
  unfold lineP
  show perW ++ ((32 :: g) ++ ns.flatMap (fun n => 32 :: n)) ++ [10] = _
  rw [h, if_neg (by simp)]
  simp
theorem line_name (n : Bs) : joinS [n] ++ [10] = n ++ [10] := by unfold joinS; simp
def prefO (o : Ow) (k : Nat) : Bs := printO (o.1, o.2.take k)
theorem prefO_next {o : Ow} {k : Nat} {x : Ln} (h : o.2[k]? = some x) : prefO o (k + 1) = prefO o k ++ lineP x := by
  unfold prefO printO
  simp only
  rw [List.take_add_one, h, List.flatMap_append]
  simp
theorem prefO_le (o : Ow) (k : Nat) : (prefO o k).length ≤ (printO o).length := by
  unfold prefO printO
  simp only
  conv => rhs; rw [← List.take_append_drop k o.2]
  rw [List.flatMap_append]
  simp only [List.length_append]; omega
theorem prefO_all (o : Ow) : prefO o o.2.length = printO o := by unfold prefO; rw [List.take_length]
/-- Behind the first k names of a line without a glob. -/
def namesP (l : List Bs) (k : Nat) : Bs := (l.take k).flatMap (fun n => n ++ [10])
theorem namesP_next {l : List Bs} {k : Nat} {n : Bs} (h : l[k]? = some n) : namesP l (k + 1) = namesP l k ++ (n ++ [10]) := by
  unfold namesP
  rw [List.take_add_one, h, List.flatMap_append]
  simp
theorem namesP_le (l : List Bs) (k : Nat) : (namesP l k).length ≤ (l.flatMap (fun n => n ++ [10])).length := by
  unfold namesP
  conv => rhs; rw [← List.take_append_drop k l]
  rw [List.flatMap_append, List.length_append]; omega
theorem namesP_all (l : List Bs) : namesP l l.length = l.flatMap (fun n => n ++ [10]) := by unfold namesP; rw [List.take_length]
theorem texts2 (w : World) (a b : ByteArray) : StrsAt (w.alloc (.cells #[.string a, .string b] 9)) (some ⟨w.heap.size, 0, none⟩) [a.data.toList, b.data.toList] := fun _ => ⟨_, 0, rfl, fun i p hp => by
  match i, hp with
  | 0, hp => cases hp; rw [data_mkB]; exact cell_of_row _ _ 0 _ _ _ (heap_alloc_new w _)
  | 1, hp => cases hp; rw [data_mkB]; exact cell_of_row _ _ 1 _ _ _ (heap_alloc_new w _)
  | i + 2, hp => simp at hp⟩

set_option maxRecDepth 100000 in
set_option maxHeartbeats 8000000 in
theorem oprint_any (np : Bool) (A : Option Addr) (c : Nat) (L : List LX) (w : World) (h : LinesAt w A c L) (hz : (printO (np, lnsX L)).length ≤ 1000000) :
    Calls Tryz.prog 18 #[owV np A L.length c] w fun e w' => e = .returned (.string (mkB (printO (np, lnsX L)))) ∧ Below w.heap.size w w' := by
  have HH := Lib.hid h
  obtain ⟨B, hB⟩ : ∃ B, w.heap.size = B := ⟨_, rfl⟩
  have hall := prefO_all (np, lnsX L)
  simp only [lnsX_length] at hall
  have hpl := prefO_le (np, lnsX L)
  obtain ⟨T, hT⟩ : ∃ T, printO (np, lnsX L) = T := ⟨_, rfl⟩
  rw [hT] at hz hall hpl ⊢
  have HALL := Lib.hid hall
  have HPL := Lib.hid hpl
  have HB := Lib.hid hB
  obtain ⟨W1, hW1⟩ : ∃ W1, w.alloc (.cells #[.bool np, .slice A L.length c] 24) = W1 := ⟨_, rfl⟩
  obtain ⟨W2, hW2⟩ : ∃ W2, W1.alloc (.cells #[.pointer none, .slice none 0 0] 77) = W2 := ⟨_, rfl⟩
  have s1 : W1.heap.size = B + 1 := by rw [← hW1, World.size_alloc, hB]
  have s2 : W2.heap.size = B + 1 + 1 := by rw [← hW2, World.size_alloc, s1]
  have hn2 : W2.heap[B + 1]? = some (.cells #[.pointer none, .slice none 0 0] 77 (0, 0)) := by
    have := heap_alloc_new W1 (.cells #[.pointer none, .slice none 0 0] 77)
    rw [hW2, s1] at this; exact this
  have hn1 : W2.cell? ⟨B, 1, none⟩ = some (.slice A L.length c) := by
    have h1 := heap_alloc_new w (.cells #[.bool np, .slice A L.length c] 24)
    rw [hW1, hB] at h1
    have h2 : Below W1.heap.size W1 W2 := by rw [← hW2]; exact (Below.refl _ _).alloc (Nat.le_refl _) _
    exact cell_of_row _ B 1 _ _ _ ((h2.block B (by omega)).trans h1)
  have C01 := Lib.hid hn1
  have HBN : Hid (BuiltF (B + 1) (B + 1) [] W2) := built_new (Nat.le_refl _) hn2
  have hb2 : Below B w W2 := by rw [← hW2, ← hW1]; exact (((Below.refl B w).alloc (by omega) _).alloc (by rw [World.size_alloc]; omega) _)
  have HB2 := Lib.hid hb2
  have hLc : L.length ≤ maxLen := Nat.le_trans h.cap h.capm
  unfold maxLen at hLc
  have HW1 := Lib.hid hW1
  have HW2 := Lib.hid hW2
  clear h hT hall hpl hn2 hb2 hn1 hW1 hW2 s1
  unfold owV
  go_enter Tryz.func18, Tryz.ntmps18
  rw [hB]
  cases np with
  | false =>
    go_wp2_with fail
    rw [HW1.out, HW2.out]
    clear HW1 HW2
    go_loopw [6, 8, 18, 37] (fun v6 v8 i v37 wr => ∃ k : Nat, k ≤ L.length ∧ i = .int .i64 k ∧ Hid (BuiltF (B + 1) (B + 1) (Lib.byteCells (prefO (false, lnsX L) k)) wr) ∧ Below B w wr) (fun _ _ i _ _ => L.length - (intOf i).toNat)
    case atStart => exact ⟨0, Nat.zero_le _, rfl, HBN.out, HB2.out⟩
    case round =>
      obtain ⟨k, hk, rfl, HBU, hbr⟩ := hrel
      have hsz := hbr.size
      have hlt := built_lt HBU.out
      by_cases h1 : k < L.length
      · obtain ⟨x, hx⟩ : ∃ x, L[k]? = some x := ⟨_, List.getElem?_eq_getElem h1⟩
        obtain ⟨g, o, rfl, hr⟩ := HH.out.row (by omega)
        obtain ⟨r1, r2⟩ := hr k x hx
        obtain ⟨hs0, hc0, hm0⟩ := HH.out.own x (List.mem_of_getElem? hx)
        have hgl : g < w.heap.size := World.block_lt_of_cell? w (a := ⟨g, o + k * 2, none⟩) r1
        have hbw : Below w.heap.size w wr := by rw [HB.out]; exact hbr
        have c1 := (hbw.cell (p := ⟨g, o + k * 2, none⟩) hgl).trans r1
        have c2 := (hbw.cell (p := ⟨g, o + k * 2 + 1, none⟩) hgl).trans r2
        have k1 : (k : Int) < (L.length : Int) := by omega
        have hln : (lnsX L)[k]? = some x.ln := by rw [lnsX_getElem?, hx]; rfl
        obtain ⟨xg, xA, xc, xns⟩ := x
        simp only at c1 c2 hs0 hc0 hm0
        unfold maxLen at hm0
        have hnx := prefO_next (o := (false, lnsX L)) (k := k) (x := (xg.data.toList, xns)) hln
        have hT1 := HPL.out (k + 1)
        rw [hnx, List.length_append] at hT1
        have HNX := Lib.hid hnx
        have HS0 := Lib.hid hs0
        clear hx hr r1 r2 hln hnx hs0
        cases hg0 : xg.toList.isEmpty with
        | true =>
          have hlp : lineP (xg.data.toList, xns) = xns.flatMap (fun n => n ++ [10]) := by
            unfold lineP; rw [← ByteArray.toList_eq, hg0, if_pos rfl]
          rw [hlp] at hT1 HNX
          have HG0 := Lib.hid hg0
          clear hlp
          go_wp2_with fail
          clear c1 c2 hg0
          obtain ⟨wc, hwc⟩ : ∃ wc, wc = wr := ⟨_, rfl⟩
          subst hwc
          go_loopw [8, 37] (fun v8 j wr => ∃ m : Nat, m ≤ xns.length ∧ j = .int .i64 m ∧ Hid (BuiltF (B + 1) (B + 1) (Lib.byteCells (prefO (false, lnsX L) k ++ namesP xns m)) wr) ∧ Below B w wr) (fun _ j _ => xns.length - (intOf j).toNat)
          case atStart => exact ⟨0, Nat.zero_le _, rfl, by unfold Hid; rw [show namesP xns 0 = [] from rfl, List.append_nil]; exact built_below HBU.out ((Below.refl _ _).alloc (Nat.le_refl _) _), hbr.alloc (by omega) _⟩
          case round =>
            obtain ⟨m, hm, rfl, HBU2, hbr2⟩ := hrel
            have hsz2 := hbr2.size
            have hlt2 := built_lt HBU2.out
            by_cases h2 : m < xns.length
            · obtain ⟨n, hn⟩ : ∃ n, xns[m]? = some n := ⟨_, List.getElem?_eq_getElem h2⟩
              obtain ⟨g2, o2, hA2, hc2⟩ := HS0.out (by omega)
              subst hA2
              have r3 := hc2 m n hn
              have hgl2 : g2 < w.heap.size := World.block_lt_of_cell? w (a := ⟨g2, o2 + m, none⟩) r3
              have hbw2 : Below w.heap.size w wr := by rw [HB.out]; exact hbr2
              have c3 := (hbw2.cell (p := ⟨g2, o2 + m, none⟩) hgl2).trans r3
              have k2 : (m : Int) < (xns.length : Int) := by omega
              have hnm := namesP_next hn
              have hle := namesP_le xns (m + 1)
              rw [hnm, List.length_append, List.length_append, List.length_singleton] at hle
              have HNM := Lib.hid hnm
              have hone := one_at wr (mkB n)
              rw [mkB_data] at hone
              have hba : Below wr.heap.size wr (wr.alloc (.cells #[.string (mkB n)] 9)) := (Below.refl _ _).alloc (Nat.le_refl _) _
              have hj1 : joinS [n] = n := by unfold joinS; simp
              have HL := oline_any (B + 1) (B + 1) (prefO (false, lnsX L) k ++ namesP xns m) [n] (some ⟨wr.heap.size, 0, none⟩) 1 (wr.alloc (.cells #[.string (mkB n)] 9)) (built_below HBU2.out hba) (by have := hba.size; omega) hone (Nat.le_refl _) (by show (1 : Nat) ≤ 1000000; decide) (by rw [List.length_append]; omega) (by rw [hj1]; omega)
              rw [line_name] at HL
              have HLL := Lib.hid HL
              clear hn hc2 r3 hnm hone HL hj1
              go_wp2_with fail
              refine HLL.out.mono ?_
              rintro e w3 ⟨rfl, hbu3, hb3⟩
              have hB3 := (hbr2.alloc (o := .cells #[.string (mkB n)] 9) (by omega)).trans (hb3.mono (Nat.le_succ B))
              rw [List.append_assoc, ← HNM.out] at hbu3
              go_wp2_with fail
              go_roundw
              case rel => exact ⟨m + 1, by omega, by go_num, hbu3, hB3⟩
              case measure => simp [intOf]; omega
            · obtain rfl : m = xns.length := by omega
              go_wp2_with fail
              go_roundw
              case rel => exact ⟨k + 1, by omega, by go_num, by unfold Hid; rw [HNX.out, ← namesP_all]; exact HBU2.out, hbr2⟩
              case measure => simp [intOf]; omega
        | false =>
          have hlp : joinS (perW :: xg.data.toList :: xns) ++ [10] = lineP (xg.data.toList, xns) := line_glob _ _ (by rw [← ByteArray.toList_eq]; exact hg0)
          have hnl := ns_glob xg.data.toList xns (by rw [← ByteArray.toList_eq]; exact hg0)
          have HLP := Lib.hid hlp
          obtain ⟨W1, hW1⟩ : ∃ W1, wr.alloc (.cells #[.string xg, .slice xA xns.length xc] 62) = W1 := ⟨_, rfl⟩
          obtain ⟨W2, hW2⟩ : ∃ W2, W1.alloc (.cells #[.string ⟨#[112, 101, 114, 45, 102, 105, 108, 101]⟩, .string xg] 9) = W2 := ⟨_, rfl⟩
          obtain ⟨W3, hW3⟩ : ∃ W3, W2.alloc (.cells #[.slice (some ⟨wr.heap.size + 1, 0, none⟩) 2 2, .slice xA xns.length xc] 39) = W3 := ⟨_, rfl⟩
          have hs1 : W1.heap.size = wr.heap.size + 1 := by rw [← hW1]; exact World.size_alloc _ _
          have hs2 : W2.heap.size = wr.heap.size + 1 + 1 := by rw [← hW2, World.size_alloc, hs1]
          have b1 : Below wr.heap.size wr W1 := by rw [← hW1]; exact (Below.refl _ _).alloc (Nat.le_refl _) _
          have b2 : Below W1.heap.size W1 W2 := by rw [← hW2]; exact (Below.refl _ _).alloc (Nat.le_refl _) _
          have b3 : Below W2.heap.size W2 W3 := by rw [← hW3]; exact (Below.refl _ _).alloc (Nat.le_refl _) _
          have b12 : Below wr.heap.size wr W2 := b1.trans (b2.mono b1.size)
          have b13 : Below wr.heap.size wr W3 := b12.trans (b3.mono b12.size)
          have t2 := texts2 W1 ⟨#[112, 101, 114, 45, 102, 105, 108, 101]⟩ xg
          rw [hW2, hs1] at t2
          have n3 := heap_alloc_new W2 (.cells #[.slice (some ⟨wr.heap.size + 1, 0, none⟩) 2 2, .slice xA xns.length xc] 39)
          rw [hW3, hs2] at n3
          have hx3 : StrsAt W3 xA xns := ((HS0.out.below (by rw [HB.out]; exact hbr : Below w.heap.size w wr)).below b13)
          have HC := concatS_any [⟨some ⟨wr.heap.size + 1, 0, none⟩, 2, [perW, xg.data.toList]⟩, ⟨xA, xc, xns⟩] (wr.heap.size + 1 + 1) 0 2 W3 (fun j y hy => by
            match j, hy with
            | 0, hy => cases hy; exact cell_of_row _ _ 0 _ _ _ n3
            | 1, hy => cases hy; exact cell_of_row _ _ 1 _ _ _ n3
            | j + 2, hy => simp at hy) (Array.getElem?_eq_some_iff.1 n3).1 (fun y hy => by
            simp only [List.mem_cons, List.mem_nil_iff, or_false] at hy
            rcases hy with rfl | rfl
            · exact t2.below b3
            · exact hx3) (by show (2 : Nat) ≤ 1000; decide) (by show 0 < ([perW, xg.data.toList] ++ (xns ++ [])).length; simp) (by show ([perW, xg.data.toList] ++ (xns ++ [])).length ≤ _; rw [List.append_nil, List.length_append, List.length_cons, List.length_singleton]; omega)
          rw [show catS [⟨some ⟨wr.heap.size + 1, 0, none⟩, 2, [perW, xg.data.toList]⟩, ⟨xA, xc, xns⟩] [(⟨some ⟨wr.heap.size + 1, 0, none⟩, 2, [perW, xg.data.toList]⟩ : RX), ⟨xA, xc, xns⟩].length = perW :: xg.data.toList :: xns from by show [perW, xg.data.toList] ++ (xns ++ []) = _; rw [List.append_nil]; rfl] at HC
          simp only [List.length_cons, List.length_nil, Nat.zero_add] at HC
          have HCC := Lib.hid HC
          have B13 := Lib.hid b13
          have hT2 : (joinS (perW :: xg.data.toList :: xns)).length + 1 = (lineP (xg.data.toList, xns)).length := by rw [← hlp, List.length_append]; rfl
          have HW1 := Lib.hid hW1
          have HW2 := Lib.hid hW2
          have HW3 := Lib.hid hW3
          clear HC t2 n3 hx3 b1 b2 b3 b12 b13 hlp hW1 hW2 hW3 hs1 hs2
          go_wp2_with fail
          rw [HW1.out, HW2.out, HW3.out]
          refine HCC.out.mono ?_
          clear HW1 HW2 HW3
          rintro e w4 ⟨A4, c4, rfl, hst4, hc4, hm4, hb4⟩
          have hb04 : Below wr.heap.size wr w4 := B13.out.trans (hb4.mono B13.out.size)
          have HL := oline_any (B + 1) (B + 1) (prefO (false, lnsX L) k) (perW :: xg.data.toList :: xns) A4 c4 w4 (built_below HBU.out hb04) (by have := hb04.size; omega) hst4 hc4 (by simp only [List.length_cons]; omega) (by omega) (by omega)
          rw [HLP.out, ← HNX.out] at HL
          simp only [List.length_cons] at HL
          have HLL := Lib.hid HL
          have hB4 := hbr.trans (hb04.mono (by have := HB.out; omega))
          have HB4 := Lib.hid hB4
          clear HL hst4 hb4 hb04 hB4 c1 c2
          go_wp2_with fail
          refine HLL.out.mono ?_
          rintro e w5 ⟨rfl, hbu5, hb5⟩
          have hB5 := HB4.out.trans (hb5.mono (Nat.le_succ B))
          go_wp2_with fail
          go_roundw
          case rel => exact ⟨k + 1, by omega, by go_num, hbu5, hB5⟩
          case measure => simp [intOf]; omega
      · obtain rfl : k = L.length := by omega
        have hbu := HBU.out
        rw [HALL.out] at hbu
        have HST := Lib.hid (Tryz.Builder_String_any_k (B + 1) (B + 1) T wr hbu (by omega))
        clear hbu
        go_wp2_with fail
        refine HST.out.mono ?_
        rintro e w9 ⟨rfl, _, hb9, _⟩
        go_wp2_with fail
        go_ret
        exact ⟨rfl, hbr.trans (hb9.mono (Nat.le_succ B))⟩
  | true =>
    have t3 := texts2 W2 ⟨#[115, 101, 116]⟩ ⟨#[110, 111, 112, 97, 114, 101, 110, 116]⟩
    rw [s2] at t3
    have b3 : Below W2.heap.size W2 (W2.alloc (.cells #[.string ⟨#[115, 101, 116]⟩, .string ⟨#[110, 111, 112, 97, 114, 101, 110, 116]⟩] 9)) := (Below.refl _ _).alloc (Nat.le_refl _) _
    have HL := oline_any (B + 1) (B + 1) [] [setW, nopW] (some ⟨B + 1 + 1, 0, none⟩) 2 (W2.alloc (.cells #[.string ⟨#[115, 101, 116]⟩, .string ⟨#[110, 111, 112, 97, 114, 101, 110, 116]⟩] 9)) (built_below HBN.out b3) (by have := b3.size; omega) t3 (Nat.le_refl _) (by show (2 : Nat) ≤ 1000000; decide) (by decide) (by decide)
    rw [show ([] : Bs) ++ (joinS [setW, nopW] ++ [10]) = prefO (true, lnsX L) 0 from rfl] at HL
    simp only [List.length_cons, List.length_nil, Nat.zero_add] at HL
    have HLL := Lib.hid HL
    have HB3 := Lib.hid (HB2.out.trans (b3.mono (by omega)))
    have B3 := Lib.hid b3
    clear HL t3 b3
    go_wp2_with fail
    rw [HW1.out, HW2.out]
    refine HLL.out.mono ?_
    clear HW1 HW2
    rintro e w6 ⟨rfl, hbu6, hb6⟩
    have hB6 := HB3.out.trans (hb6.mono (Nat.le_succ B))
    have c01 : w6.cell? ⟨B, 1, none⟩ = some (.slice A L.length c) := (hb6.cell (p := ⟨B, 1, none⟩) (Nat.lt_succ_self B)).trans ((B3.out.cell (p := ⟨B, 1, none⟩) (by show B < _; omega)).trans C01.out)
    have HBU6 := Lib.hid hbu6
    clear hbu6 hb6
    go_wp2_with fail
    go_loopw [6, 8, 18, 37] (fun v6 v8 i v37 wr => ∃ k : Nat, k ≤ L.length ∧ i = .int .i64 k ∧ Hid (BuiltF (B + 1) (B + 1) (Lib.byteCells (prefO (true, lnsX L) k)) wr) ∧ Below B w wr) (fun _ _ i _ _ => L.length - (intOf i).toNat)
    case atStart => exact ⟨0, Nat.zero_le _, rfl, HBU6.out, hB6⟩
    case round =>
      obtain ⟨k, hk, rfl, HBU, hbr⟩ := hrel
      have hsz := hbr.size
      have hlt := built_lt HBU.out
      by_cases h1 : k < L.length
      · obtain ⟨x, hx⟩ : ∃ x, L[k]? = some x := ⟨_, List.getElem?_eq_getElem h1⟩
        obtain ⟨g, o, rfl, hr⟩ := HH.out.row (by omega)
        obtain ⟨r1, r2⟩ := hr k x hx
        obtain ⟨hs0, hc0, hm0⟩ := HH.out.own x (List.mem_of_getElem? hx)
        have hgl : g < w.heap.size := World.block_lt_of_cell? w (a := ⟨g, o + k * 2, none⟩) r1
        have hbw : Below w.heap.size w wr := by rw [HB.out]; exact hbr
        have c1 := (hbw.cell (p := ⟨g, o + k * 2, none⟩) hgl).trans r1
        have c2 := (hbw.cell (p := ⟨g, o + k * 2 + 1, none⟩) hgl).trans r2
        have k1 : (k : Int) < (L.length : Int) := by omega
        have hln : (lnsX L)[k]? = some x.ln := by rw [lnsX_getElem?, hx]; rfl
        obtain ⟨xg, xA, xc, xns⟩ := x
        simp only at c1 c2 hs0 hc0 hm0
        unfold maxLen at hm0
        have hnx := prefO_next (o := (true, lnsX L)) (k := k) (x := (xg.data.toList, xns)) hln
        have hT1 := HPL.out (k + 1)
        rw [hnx, List.length_append] at hT1
        have HNX := Lib.hid hnx
        have HS0 := Lib.hid hs0
        clear hx hr r1 r2 hln hnx hs0
        cases hg0 : xg.toList.isEmpty with
        | true =>
          have hlp : lineP (xg.data.toList, xns) = xns.flatMap (fun n => n ++ [10]) := by
            unfold lineP; rw [← ByteArray.toList_eq, hg0, if_pos rfl]
          rw [hlp] at hT1 HNX
          have HG0 := Lib.hid hg0
          clear hlp
          go_wp2_with fail
          clear c1 c2 hg0
          obtain ⟨wc, hwc⟩ : ∃ wc, wc = wr := ⟨_, rfl⟩
          subst hwc
          go_loopw [8, 37] (fun v8 j wr => ∃ m : Nat, m ≤ xns.length ∧ j = .int .i64 m ∧ Hid (BuiltF (B + 1) (B + 1) (Lib.byteCells (prefO (true, lnsX L) k ++ namesP xns m)) wr) ∧ Below B w wr) (fun _ j _ => xns.length - (intOf j).toNat)
          case atStart => exact ⟨0, Nat.zero_le _, rfl, by unfold Hid; rw [show namesP xns 0 = [] from rfl, List.append_nil]; exact built_below HBU.out ((Below.refl _ _).alloc (Nat.le_refl _) _), hbr.alloc (by omega) _⟩
          case round =>
            obtain ⟨m, hm, rfl, HBU2, hbr2⟩ := hrel
            have hsz2 := hbr2.size
            have hlt2 := built_lt HBU2.out
            by_cases h2 : m < xns.length
            · obtain ⟨n, hn⟩ : ∃ n, xns[m]? = some n := ⟨_, List.getElem?_eq_getElem h2⟩
              obtain ⟨g2, o2, hA2, hc2⟩ := HS0.out (by omega)
              subst hA2
              have r3 := hc2 m n hn
              have hgl2 : g2 < w.heap.size := World.block_lt_of_cell? w (a := ⟨g2, o2 + m, none⟩) r3
              have hbw2 : Below w.heap.size w wr := by rw [HB.out]; exact hbr2
              have c3 := (hbw2.cell (p := ⟨g2, o2 + m, none⟩) hgl2).trans r3
              have k2 : (m : Int) < (xns.length : Int) := by omega
              have hnm := namesP_next hn
              have hle := namesP_le xns (m + 1)
              rw [hnm, List.length_append, List.length_append, List.length_singleton] at hle
              have HNM := Lib.hid hnm
              have hone := one_at wr (mkB n)
              rw [mkB_data] at hone
              have hba : Below wr.heap.size wr (wr.alloc (.cells #[.string (mkB n)] 9)) := (Below.refl _ _).alloc (Nat.le_refl _) _
              have hj1 : joinS [n] = n := by unfold joinS; simp
              have HL := oline_any (B + 1) (B + 1) (prefO (true, lnsX L) k ++ namesP xns m) [n] (some ⟨wr.heap.size, 0, none⟩) 1 (wr.alloc (.cells #[.string (mkB n)] 9)) (built_below HBU2.out hba) (by have := hba.size; omega) hone (Nat.le_refl _) (by show (1 : Nat) ≤ 1000000; decide) (by rw [List.length_append]; omega) (by rw [hj1]; omega)
              rw [line_name] at HL
              have HLL := Lib.hid HL
              clear hn hc2 r3 hnm hone HL hj1
              go_wp2_with fail
              refine HLL.out.mono ?_
              rintro e w3 ⟨rfl, hbu3, hb3⟩
              have hB3 := (hbr2.alloc (o := .cells #[.string (mkB n)] 9) (by omega)).trans (hb3.mono (Nat.le_succ B))
              rw [List.append_assoc, ← HNM.out] at hbu3
              go_wp2_with fail
              go_roundw
              case rel => exact ⟨m + 1, by omega, by go_num, hbu3, hB3⟩
              case measure => simp [intOf]; omega
            · obtain rfl : m = xns.length := by omega
              go_wp2_with fail
              go_roundw
              case rel => exact ⟨k + 1, by omega, by go_num, by unfold Hid; rw [HNX.out, ← namesP_all]; exact HBU2.out, hbr2⟩
              case measure => simp [intOf]; omega
        | false =>
          have hlp : joinS (perW :: xg.data.toList :: xns) ++ [10] = lineP (xg.data.toList, xns) := line_glob _ _ (by rw [← ByteArray.toList_eq]; exact hg0)
          have hnl := ns_glob xg.data.toList xns (by rw [← ByteArray.toList_eq]; exact hg0)
          have HLP := Lib.hid hlp
          obtain ⟨W1, hW1⟩ : ∃ W1, wr.alloc (.cells #[.string xg, .slice xA xns.length xc] 62) = W1 := ⟨_, rfl⟩
          obtain ⟨W2, hW2⟩ : ∃ W2, W1.alloc (.cells #[.string ⟨#[112, 101, 114, 45, 102, 105, 108, 101]⟩, .string xg] 9) = W2 := ⟨_, rfl⟩
          obtain ⟨W3, hW3⟩ : ∃ W3, W2.alloc (.cells #[.slice (some ⟨wr.heap.size + 1, 0, none⟩) 2 2, .slice xA xns.length xc] 39) = W3 := ⟨_, rfl⟩
          have hs1 : W1.heap.size = wr.heap.size + 1 := by rw [← hW1]; exact World.size_alloc _ _
          have hs2 : W2.heap.size = wr.heap.size + 1 + 1 := by rw [← hW2, World.size_alloc, hs1]
          have b1 : Below wr.heap.size wr W1 := by rw [← hW1]; exact (Below.refl _ _).alloc (Nat.le_refl _) _
          have b2 : Below W1.heap.size W1 W2 := by rw [← hW2]; exact (Below.refl _ _).alloc (Nat.le_refl _) _
          have b3 : Below W2.heap.size W2 W3 := by rw [← hW3]; exact (Below.refl _ _).alloc (Nat.le_refl _) _
          have b12 : Below wr.heap.size wr W2 := b1.trans (b2.mono b1.size)
          have b13 : Below wr.heap.size wr W3 := b12.trans (b3.mono b12.size)
          have t2 := texts2 W1 ⟨#[112, 101, 114, 45, 102, 105, 108, 101]⟩ xg
          rw [hW2, hs1] at t2
          have n3 := heap_alloc_new W2 (.cells #[.slice (some ⟨wr.heap.size + 1, 0, none⟩) 2 2, .slice xA xns.length xc] 39)
          rw [hW3, hs2] at n3
          have hx3 : StrsAt W3 xA xns := ((HS0.out.below (by rw [HB.out]; exact hbr : Below w.heap.size w wr)).below b13)
          have HC := concatS_any [⟨some ⟨wr.heap.size + 1, 0, none⟩, 2, [perW, xg.data.toList]⟩, ⟨xA, xc, xns⟩] (wr.heap.size + 1 + 1) 0 2 W3 (fun j y hy => by
            match j, hy with
            | 0, hy => cases hy; exact cell_of_row _ _ 0 _ _ _ n3
            | 1, hy => cases hy; exact cell_of_row _ _ 1 _ _ _ n3
            | j + 2, hy => simp at hy) (Array.getElem?_eq_some_iff.1 n3).1 (fun y hy => by
            simp only [List.mem_cons, List.mem_nil_iff, or_false] at hy
            rcases hy with rfl | rfl
            · exact t2.below b3
            · exact hx3) (by show (2 : Nat) ≤ 1000; decide) (by show 0 < ([perW, xg.data.toList] ++ (xns ++ [])).length; simp) (by show ([perW, xg.data.toList] ++ (xns ++ [])).length ≤ _; rw [List.append_nil, List.length_append, List.length_cons, List.length_singleton]; omega)
          rw [show catS [⟨some ⟨wr.heap.size + 1, 0, none⟩, 2, [perW, xg.data.toList]⟩, ⟨xA, xc, xns⟩] [(⟨some ⟨wr.heap.size + 1, 0, none⟩, 2, [perW, xg.data.toList]⟩ : RX), ⟨xA, xc, xns⟩].length = perW :: xg.data.toList :: xns from by show [perW, xg.data.toList] ++ (xns ++ []) = _; rw [List.append_nil]; rfl] at HC
          simp only [List.length_cons, List.length_nil, Nat.zero_add] at HC
          have HCC := Lib.hid HC
          have B13 := Lib.hid b13
          have hT2 : (joinS (perW :: xg.data.toList :: xns)).length + 1 = (lineP (xg.data.toList, xns)).length := by rw [← hlp, List.length_append]; rfl
          have HW1 := Lib.hid hW1
          have HW2 := Lib.hid hW2
          have HW3 := Lib.hid hW3
          clear HC t2 n3 hx3 b1 b2 b3 b12 b13 hlp hW1 hW2 hW3 hs1 hs2
          go_wp2_with fail
          rw [HW1.out, HW2.out, HW3.out]
          refine HCC.out.mono ?_
          clear HW1 HW2 HW3
          rintro e w4 ⟨A4, c4, rfl, hst4, hc4, hm4, hb4⟩
          have hb04 : Below wr.heap.size wr w4 := B13.out.trans (hb4.mono B13.out.size)
          have HL := oline_any (B + 1) (B + 1) (prefO (true, lnsX L) k) (perW :: xg.data.toList :: xns) A4 c4 w4 (built_below HBU.out hb04) (by have := hb04.size; omega) hst4 hc4 (by simp only [List.length_cons]; omega) (by omega) (by omega)
          rw [HLP.out, ← HNX.out] at HL
          simp only [List.length_cons] at HL
          have HLL := Lib.hid HL
          have hB4 := hbr.trans (hb04.mono (by have := HB.out; omega))
          have HB4 := Lib.hid hB4
          clear HL hst4 hb4 hb04 hB4 c1 c2
          go_wp2_with fail
          refine HLL.out.mono ?_
          rintro e w5 ⟨rfl, hbu5, hb5⟩
          have hB5 := HB4.out.trans (hb5.mono (Nat.le_succ B))
          go_wp2_with fail
          go_roundw
          case rel => exact ⟨k + 1, by omega, by go_num, hbu5, hB5⟩
          case measure => simp [intOf]; omega
      · obtain rfl : k = L.length := by omega
        have hbu := HBU.out
        rw [HALL.out] at hbu
        have HST := Lib.hid (Tryz.Builder_String_any_k (B + 1) (B + 1) T wr hbu (by omega))
        clear hbu
        go_wp2_with fail
        refine HST.out.mono ?_
        rintro e w9 ⟨rfl, _, hb9, _⟩
        go_wp2_with fail
        go_ret
        exact ⟨rfl, hbr.trans (hb9.mono (Nat.le_succ B))⟩
end Go.Proofs.YtkihgbggndikpaaGreatDoor
namespace Go.Proofs.YtkihgbggndikpaaGreatDoor
open Go

/-- The pieces between blanks. -/
def fieldsF (l : Bs) : List Bs := (splitL 32 l).filter (fun p => !p.isEmpty)
theorem wordsL_def (l : Bs) : wordsL l = fieldsF (cutR l) := rfl
theorem fields_cat (a b : Bs) : fieldsF (a ++ 32 :: b) = fieldsF a ++ fieldsF b := by unfold fieldsF; rw [splitY_cat, List.filter_append]
theorem fields_nil : fieldsF [] = [] := rfl
theorem fields_cons (l : Bs) : fieldsF (32 :: l) = fieldsF l := by
  have := fields_cat [] l
  rwa [fields_nil, List.nil_append, List.nil_append] at this
theorem fields_snoc (l : Bs) : fieldsF (l ++ [32]) = fieldsF l := by rw [fields_cat, fields_nil, List.append_nil]
theorem fields_word {w : Bs} (h : ∀ x ∈ w, (x == 32) = false) (hn : w.isEmpty = false) : fieldsF w = [w] := by
  unfold fieldsF
  rw [splitY_all 32 w h]
  simp [hn]
theorem fields_names : ∀ (ns : List Bs) (w : Bs), (∀ x ∈ w, (x == 32) = false) → w.isEmpty = false → (∀ n ∈ ns, namedB n = true) → fieldsF (w ++ ns.flatMap (fun n => 32 :: n)) = w :: ns
  | [], w, h, hn, _ => by rw [List.flatMap_nil, List.append_nil]; exact fields_word h hn
  | n :: r, w, h, hn, hr => by
    rw [List.flatMap_cons]
    show fieldsF (w ++ 32 :: (n ++ r.flatMap (fun n => 32 :: n))) = _
    rw [fields_cat, fields_word h hn, fields_names r n (named_plain (hr n (by simp)) 32 (by decide)) (named_ne (hr n (by simp))) (fun m hm => hr m (by simp [hm]))]
    rfl

/-! Printed, and parsed again. -/
/-- A line as it is printed, without its line feed. -/
def lineB (x : Ln) : Bs := if x.1.isEmpty then x.2.headD [] else perW ++ 32 :: (x.1 ++ x.2.flatMap (fun n => 32 :: n))
def okL (x : Ln) : Prop := (∀ p ∈ x.2, namedB p = true) ∧ ((x.1 = [] ∧ ∃ p, x.2 = [p]) ∨ (isGlobL x.1 = true ∧ x.2 ≠ []))
theorem okL_of {n : Nat} {x : Ln} (h : okLn n x) : okL x := ⟨h.2.2.1, h.2.2.2⟩
theorem lineP_lineB {x : Ln} (h : okL x) : lineP x = lineB x ++ [10] := by
  obtain ⟨g, ns⟩ := x
  obtain ⟨h1, ⟨h2, p, h3⟩ | ⟨h2, h3⟩⟩ := h
  · simp only at h2 h3
    subst h2; subst h3
    simp [lineP, lineB]
  · simp only at h2 h3
    have := glob_ne h2
    unfold lineP lineB
    simp only [this, Bool.false_eq_true, if_false, List.append_assoc, List.cons_append]
theorem flat_no {ns : List Bs} (h : ∀ n ∈ ns, namedB n = true) (c : UInt8) (hc : plainN c = false) (h2 : c ≠ 32) : ∀ x ∈ ns.flatMap (fun n => 32 :: n), (x == c) = false := fun x hx => by
  obtain ⟨n, hn, hx⟩ := List.mem_flatMap.1 hx
  rcases List.mem_cons.1 hx with rfl | hx
  · exact beq_eq_false_iff_ne.2 (fun e => h2 e.symm)
  · exact named_plain (h n hn) c hc x hx
theorem lineB_no {x : Ln} (h : okL x) (c : UInt8) (h1 : okB [42, 63] c = false) (h2 : plainN c = false) (h3 : c ≠ 32) (h4 : ∀ x ∈ perW, (x == c) = false) : ∀ y ∈ lineB x, (y == c) = false := fun y hy => by
  obtain ⟨g, ns⟩ := x
  obtain ⟨k1, ⟨k2, p, k3⟩ | ⟨k2, k3⟩⟩ := h
  · simp only at k1 k2 k3
    subst k2; subst k3
    exact named_plain (k1 p (by simp)) c h2 y (by simpa [lineB] using hy)
  · simp only at k1 k2 k3
    have hg := glob_ne k2
    unfold lineB at hy
    simp only [hg, Bool.false_eq_true, if_false, List.mem_append, List.mem_cons] at hy
    rcases hy with hy | rfl | hy | hy
    · exact h4 y hy
    · exact beq_eq_false_iff_ne.2 (fun e => h3 e.symm)
    · exact glob_plain k2 c h1 y hy
    · exact flat_no k1 c h2 h3 y hy
theorem cutR_id {l : Bs} (h : ∀ y ∈ l, (y == 35) = false) : cutR l = l := by
  unfold cutR
  exact take_all _ _ fun x hx => by
    have := h x hx
    simpa using this
theorem tell_lineB (o : Ow) {x : Ln} (h : okL x) : tellL o (wordsL (lineB x)) = some (o.1, o.2 ++ [x]) := by
  have hc := cutR_id (lineB_no h 35 (by decide) (by decide) (by decide) (by decide))
  obtain ⟨g, ns⟩ := x
  obtain ⟨k1, ⟨k2, p, k3⟩ | ⟨k2, k3⟩⟩ := h
  · simp only at k1 k2 k3
    subst k2; subst k3
    have hp := k1 p (by simp)
    have : wordsL (lineB ([], [p])) = [p] := by
      show wordsL p = _
      exact words_named hp
    rw [this]
    exact tell_name o hp
  · simp only at k1 k2 k3
    have hg := glob_ne k2
    have hw : wordsL (lineB (g, ns)) = perW :: g :: ns := by
      rw [wordsL_def, hc]
      unfold lineB
      simp only [hg, Bool.false_eq_true, if_false]
      rw [fields_cat, fields_names ns g (glob_plain k2 32 (by decide)) hg k1, fields_word (w := perW) (by decide) rfl]
      rfl
    rw [hw]
    have hl : 0 < ns.length := by
      cases ns with
      | nil => exact absurd rfl k3
      | cons _ _ => simp
    have h1 : isNopL (perW :: g :: ns) = false := by
      unfold isNopL; rw [beq_eq_false_iff_ne]
      intro e
      have := (List.cons.inj e).1
      revert this; decide
    have hall : ns.all namedB = true := List.all_eq_true.2 k1
    have h2 : isPerL (perW :: g :: ns) = true := by
      unfold isPerL
      simp [k2, hall]
      omega
    unfold tellL kindL
    rw [h1, h2]
    rfl
def linesO (o : Ow) : List Bs := (if o.1 then [setW ++ 32 :: nopW] else []) ++ o.2.map lineB
def feedB (l : Bs) : Bs := l ++ [10]
theorem printO_lines {o : Ow} (h : ∀ x ∈ o.2, okL x) : printO o = (linesO o).flatMap feedB := by
  have h2 : ∀ l : List Ln, (∀ x ∈ l, okL x) → l.flatMap lineP = (l.map lineB).flatMap feedB := by
    intro l
    induction l with
    | nil => intro _; rfl
    | cons x r ih =>
      intro h
      rw [List.flatMap_cons, List.map_cons, List.flatMap_cons, ih (fun y hy => h y (by simp [hy])), lineP_lineB (h x (by simp))]
      rfl
  unfold printO linesO
  rw [h2 _ h, List.flatMap_append]
  congr 1
  cases o.1 <;> rfl
theorem split_feeds : ∀ l : List Bs, (∀ n ∈ l, ∀ x ∈ n, (x == 10) = false) → splitL 10 (l.flatMap feedB) = l ++ [[]]
  | [], _ => rfl
  | n :: r, h => by
    rw [List.flatMap_cons]
    show splitL 10 ((n ++ [10]) ++ _) = _
    rw [List.append_assoc, List.singleton_append, splitY_put 10 n _ (h n (by simp)), split_feeds r (fun m hm => h m (by simp [hm]))]
    rfl
theorem fold_lineB : ∀ (l : List Ln) (o : Ow), (∀ x ∈ l, okL x) → (l.map lineB).foldl (fun o l => o.bind (tellL · (wordsL l))) (some o) = some (o.1, o.2 ++ l)
  | [], o, _ => by simp
  | x :: r, o, h => by
    rw [List.map_cons, List.foldl_cons]
    show (r.map lineB).foldl _ (tellL o (wordsL (lineB x))) = _
    rw [tell_lineB o (h x (by simp)), fold_lineB r _ (fun y hy => h y (by simp [hy]))]
    simp
theorem words_nop : wordsL (setW ++ 32 :: nopW) = [setW, nopW] := by decide +kernel
theorem parse_print {o : Ow} (h : ∀ x ∈ o.2, okL x) (hz : (printO o).length ≤ 16384) : parseV (printO o) = (0, o) := by
  have hno : ∀ n ∈ linesO o, ∀ x ∈ n, (x == 10) = false := fun n hn x hx => by
    unfold linesO at hn
    rcases List.mem_append.1 hn with hn | hn
    · split at hn
      · simp only [List.mem_singleton] at hn
        subst hn
        revert x; decide
      · cases hn
    · obtain ⟨y, hy, rfl⟩ := List.mem_map.1 hn
      exact lineB_no (h y hy) 10 (by decide) (by decide) (by decide) (by decide) x hx
  have hp : parseL (linesO o ++ [[]]) = some o := by
    rw [parseL_snoc]
    have : parseL (linesO o) = some o := by
      unfold linesO
      rw [parseL_fold]
      have h1 : parseL (if o.1 then [setW ++ 32 :: nopW] else []) = some (o.1, []) := by
        cases e : o.1 with
        | false => rfl
        | true =>
          show tellL emptyO (wordsL (setW ++ 32 :: nopW)) = _
          rw [words_nop]; rfl
      rw [h1, fold_lineB _ _ h]
      simp
    rw [this]
    show tellL o (wordsL []) = _
    rfl
  unfold parseV
  rw [if_neg (by omega), printO_lines h, split_feeds _ hno, hp]

/-! How long what is printed is. -/
def lenS (l : List Bs) : Nat := (l.map (fun p => p.length + 1)).sum
theorem lenS_split (c : UInt8) : ∀ q : Bs, lenS (splitL c q) = q.length + 1
  | [] => rfl
  | x :: r => by
    have ih := lenS_split c r
    by_cases hx : (x == c) = true
    · rw [splitY_hit c x r hx]
      unfold lenS at ih ⊢
      rw [List.map_cons, List.sum_cons, ih]
      simp only [List.length_nil, List.length_cons]; omega
    · have hx' : (x == c) = false := by simpa using hx
      cases e : splitL c r with
      | nil => exact absurd e (splitL_ne c r)
      | cons p ps =>
        rw [splitY_miss c x r p ps hx' e]
        rw [e] at ih
        unfold lenS at ih ⊢
        rw [List.map_cons, List.sum_cons] at ih ⊢
        simp only [List.length_cons]; omega
theorem lenS_filter (f : Bs → Bool) : ∀ l : List Bs, lenS (l.filter f) ≤ lenS l
  | [] => Nat.le_refl _
  | x :: r => by
    have ih := lenS_filter f r
    unfold lenS at ih ⊢
    rw [List.filter_cons]
    split
    · rw [List.map_cons, List.sum_cons, List.map_cons, List.sum_cons]; omega
    · rw [List.map_cons, List.sum_cons]; omega
theorem lenS_words (l : Bs) : lenS (wordsL l) ≤ l.length + 1 := by
  have h1 := lenS_filter (fun p => !p.isEmpty) (splitL 32 (cutR l))
  rw [lenS_split] at h1
  have h2 := cutR_len l
  unfold wordsL
  omega
theorem len_flat (ns : List Bs) : (ns.flatMap (fun n => 32 :: n)).length = lenS ns := by
  unfold lenS
  induction ns with
  | nil => rfl
  | cons n r ih => rw [List.flatMap_cons, List.length_append, ih, List.map_cons, List.sum_cons, List.length_cons]
theorem tell_len {o o' : Ow} {l : Bs} (h : tellL o (wordsL l) = some o') : (o'.2.flatMap lineP).length ≤ (o.2.flatMap lineP).length + (l.length + 1) := by
  have hw := lenS_words l
  generalize wordsL l = ws at h hw
  unfold tellL at h
  by_cases e0 : ws.isEmpty = true
  · rw [show kindL ws = 0 from by simp [kindL, e0]] at h
    simp only [tellK, Option.some.injEq] at h
    subst h; omega
  · by_cases e1 : isNopL ws = true
    · rw [show kindL ws = 1 from by simp [kindL, e0, e1]] at h
      simp only [tellK, Option.some.injEq] at h
      subst h; show (o.2.flatMap lineP).length ≤ _; omega
    · by_cases e2 : isPerL ws = true
      · rw [show kindL ws = 2 from by simp [kindL, e0, e1, e2]] at h
        simp only [tellK, Option.some.injEq] at h
        subst h
        unfold isPerL at e2
        simp only [Bool.and_eq_true, decide_eq_true_eq, beq_iff_eq] at e2
        obtain ⟨k1, k2, k3, k4⟩ := e2
        match ws, k1, k2, k3, hw with
        | w0 :: w1 :: ns, _, k2, k3, hw =>
          simp only [List.getD_cons_zero, List.getD_cons_succ] at k2 k3
          subst k2
          have hg := glob_ne k3
          show ((o.2 ++ [(w1, ns)]).flatMap lineP).length ≤ _
          rw [List.flatMap_append, List.length_append, List.flatMap_cons, List.flatMap_nil, List.append_nil]
          have e : lineP (w1, ns) = perW ++ 32 :: w1 ++ ns.flatMap (fun n => 32 :: n) ++ [10] := by
            unfold lineP; rw [hg, if_neg (by simp)]
          rw [e, List.length_append, List.length_append, List.length_append, len_flat, List.length_cons, List.length_singleton]
          unfold lenS at hw ⊢
          rw [List.map_cons, List.sum_cons, List.map_cons, List.sum_cons] at hw
          omega
      · by_cases e3 : isNameL ws = true
        · rw [show kindL ws = 3 from by simp [kindL, e0, e1, e2, e3]] at h
          simp only [tellK, Option.some.injEq] at h
          subst h
          unfold isNameL at e3
          simp only [Bool.and_eq_true, decide_eq_true_eq] at e3
          obtain ⟨w, rfl⟩ := List.length_eq_one_iff.1 e3.1
          show ((o.2 ++ [([], [w])]).flatMap lineP).length ≤ _
          rw [List.flatMap_append, List.length_append, List.flatMap_cons, List.flatMap_nil, List.append_nil]
          have : (lineP ([], [w])).length = w.length + 1 := by simp [lineP]
          unfold lenS at hw
          simp only [List.map_cons, List.map_nil, List.sum_cons, List.sum_nil] at hw
          omega
        · rw [show kindL ws = 4 from by simp [kindL, e0, e1, e2, e3]] at h
          cases h
theorem parseL_len (ls : List Bs) (o : Ow) (h : parseL ls = some o) : (o.2.flatMap lineP).length ≤ lenS ls := by
  have gen : ∀ (ls : List Bs) (o o' : Ow), ls.foldl (fun o l => o.bind (tellL · (wordsL l))) (some o) = some o' → (o'.2.flatMap lineP).length ≤ (o.2.flatMap lineP).length + lenS ls := by
    intro ls
    induction ls with
    | nil => intro o o' h; simp at h; subst h; simp
    | cons l r ih =>
      intro o o' h
      rw [List.foldl_cons] at h
      cases e : tellL o (wordsL l) with
      | none =>
        rw [show (some o).bind (fun x => tellL x (wordsL l)) = none from e] at h
        exfalso
        have : ∀ r : List Bs, r.foldl (fun o l => o.bind (tellL · (wordsL l))) (none : Option Ow) = none := by
          intro r; induction r with
          | nil => rfl
          | cons _ _ ih => simpa using ih
        rw [this] at h; cases h
      | some o1 =>
        rw [show (some o).bind (fun x => tellL x (wordsL l)) = some o1 from e] at h
        have h1 := tell_len e
        have h2 := ih o1 o' h
        unfold lenS at h2 ⊢
        rw [List.map_cons, List.sum_cons]
        omega
  have := gen ls emptyO o h
  simpa [emptyO] using this
theorem parse_short {s : Bs} (h : (parseV s).1 = 0) : (printO (parseV s).2).length ≤ s.length + 14 := by
  unfold parseV at h ⊢
  by_cases h1 : 16384 < s.length
  · rw [if_pos h1] at h; cases h
  · rw [if_neg h1] at h ⊢
    cases e : parseL (splitL 10 s) with
    | none => rw [e] at h; cases h
    | some o =>
      have h2 := parseL_len _ _ e
      rw [lenS_split] at h2
      show (printO o).length ≤ _
      unfold printO
      rw [List.length_append]
      have h3 : (if o.1 then setW ++ 32 :: nopW ++ [10] else []).length ≤ 13 := by cases o.1 <;> decide
      omega

/-! More blanks, and a remark. -/
def wideC (c : UInt8) : Bs := if c == 32 then [32, 32] else [c]
def wideB (s : Bs) : Bs := s.flatMap wideC
theorem wideB_cons (c : UInt8) (r : Bs) : wideB (c :: r) = wideC c ++ wideB r := rfl
theorem wide_hit (r : Bs) : wideB (32 :: r) = 32 :: 32 :: wideB r := rfl
theorem wide_miss {c : UInt8} (h : (c == 32) = false) (r : Bs) : wideB (c :: r) = c :: wideB r := by rw [wideB_cons]; unfold wideC; rw [h]; rfl
theorem wide_cut : ∀ l : Bs, cutR (wideB l) = wideB (cutR l)
  | [] => rfl
  | c :: r => by
    have ih := wide_cut r
    unfold cutR at ih ⊢
    by_cases h : (c == 32) = true
    · have hc : c = 32 := by simpa using h
      subst hc
      rw [wide_hit]
      simp only [List.takeWhile_cons, show ((32 : UInt8) != 35) = true from by decide, if_true, wide_hit, ih]
    · have h : (c == 32) = false := by simpa using h
      rw [wide_miss h, List.takeWhile_cons, List.takeWhile_cons]
      split
      · rw [wide_miss h, ih]
      · rfl
theorem wide_split : ∀ l : Bs, ∃ p ps, splitL 10 l = p :: ps ∧ splitL 10 (wideB l) = wideB p :: ps.map wideB
  | [] => ⟨[], [], rfl, rfl⟩
  | c :: r => by
    obtain ⟨p, ps, h1, h2⟩ := wide_split r
    by_cases h : (c == 32) = true
    · have hc : c = 32 := by simpa using h
      subst hc
      refine ⟨32 :: p, ps, splitY_miss 10 32 r p ps (by decide) h1, ?_⟩
      rw [wide_hit, wide_hit]
      exact splitY_miss 10 32 _ _ _ (by decide) (splitY_miss 10 32 _ _ _ (by decide) h2)
    · have h : (c == 32) = false := by simpa using h
      rw [wide_miss h]
      by_cases h0 : (c == 10) = true
      · refine ⟨[], p :: ps, by rw [splitY_hit 10 c r h0, h1], ?_⟩
        rw [splitY_hit 10 c _ h0, h2]; rfl
      · have h0 : (c == 10) = false := by simpa using h0
        refine ⟨c :: p, ps, splitY_miss 10 c r p ps h0 h1, ?_⟩
        rw [wide_miss h]
        exact splitY_miss 10 c _ _ _ h0 h2
theorem wide_blank : ∀ l : Bs, ∃ p ps qs, splitL 32 l = p :: ps ∧ splitL 32 (wideB l) = p :: qs ∧ qs.filter (fun x => !x.isEmpty) = ps.filter (fun x => !x.isEmpty)
  | [] => ⟨[], [], [], rfl, rfl, rfl⟩
  | c :: r => by
    obtain ⟨p, ps, qs, h1, h2, h3⟩ := wide_blank r
    by_cases h : (c == 32) = true
    · have hc : c = 32 := by simpa using h
      subst hc
      refine ⟨[], p :: ps, [] :: p :: qs, by rw [splitY_hit 32 32 r (by decide), h1], ?_, ?_⟩
      · rw [wide_hit, splitY_hit 32 32 _ (by decide), splitY_hit 32 32 _ (by decide), h2]
      · rw [List.filter_cons, if_neg (by simp), List.filter_cons, List.filter_cons, h3]
    · have h : (c == 32) = false := by simpa using h
      refine ⟨c :: p, ps, qs, splitY_miss 32 c r p ps h h1, ?_, h3⟩
      rw [wide_miss h]
      exact splitY_miss 32 c _ p qs h h2
theorem wide_words (l : Bs) : wordsL (wideB l) = wordsL l := by
  obtain ⟨p, ps, qs, h1, h2, h3⟩ := wide_blank (cutR l)
  unfold wordsL
  rw [wide_cut, h1, h2, List.filter_cons, List.filter_cons, h3]
theorem words_blank (l : Bs) : wordsL (32 :: l) = wordsL l := by
  rw [wordsL_def, wordsL_def, show cutR (32 :: l) = 32 :: cutR l from by unfold cutR; rw [List.takeWhile_cons, if_pos (by decide)], fields_cons]
theorem words_tail (l n : Bs) : wordsL (l ++ 32 :: 32 :: 35 :: n) = wordsL l := by
  rw [wordsL_def, wordsL_def]
  have : ∀ l : Bs, cutR (l ++ 32 :: 32 :: 35 :: n) = cutR l ∨ cutR (l ++ 32 :: 32 :: 35 :: n) = cutR l ++ [32, 32] := by
    intro l
    induction l with
    | nil => exact .inr rfl
    | cons c r ih =>
      unfold cutR at ih ⊢
      rw [List.cons_append, List.takeWhile_cons, List.takeWhile_cons]
      split
      · rcases ih with h | h
        · exact .inl (by rw [h])
        · exact .inr (by rw [h]; rfl)
      · exact .inl rfl
  rcases this l with h | h
  · rw [h]
  · rw [h, show cutR l ++ [32, 32] = (cutR l ++ [32]) ++ [32] from by simp, fields_snoc, fields_snoc]
theorem split_tail (Y : Bs) (hY : ∀ x ∈ Y, (x == 10) = false) : ∀ A : Bs, ∃ i p, splitL 10 A = i ++ [p] ∧ splitL 10 (A ++ Y) = i ++ [p ++ Y]
  | [] => ⟨[], [], rfl, by rw [List.nil_append, splitY_all 10 Y hY]; rfl⟩
  | c :: r => by
    obtain ⟨i, p, h1, h2⟩ := split_tail Y hY r
    by_cases h0 : (c == 10) = true
    · refine ⟨[] :: i, p, by rw [splitY_hit 10 c r h0, h1]; rfl, ?_⟩
      rw [List.cons_append, splitY_hit 10 c _ h0, h2]; rfl
    · have h0 : (c == 10) = false := by simpa using h0
      cases i with
      | nil =>
        refine ⟨[], c :: p, splitY_miss 10 c r p [] h0 h1, ?_⟩
        rw [List.cons_append]
        exact splitY_miss 10 c _ (p ++ Y) [] h0 h2
      | cons q i =>
        refine ⟨(c :: q) :: i, p, splitY_miss 10 c r q (i ++ [p]) h0 h1, ?_⟩
        rw [List.cons_append]
        exact splitY_miss 10 c _ q (i ++ [p ++ Y]) h0 h2
def parseW (ws : List (List Bs)) : Option Ow := ws.foldl (fun o w => o.bind (tellL · w)) (some emptyO)
theorem parseL_words (ls : List Bs) : parseL ls = parseW (ls.map wordsL) := by unfold parseL parseW; rw [List.foldl_map]
theorem parse_wide (s n : Bs) (hn : ∀ x ∈ n, (x == 10) = false) : parseL (splitL 10 (32 :: (wideB s ++ (32 :: 32 :: 35 :: (n ++ [10, 10]))))) = parseL (splitL 10 s) := by
  have hY : ∀ x ∈ (32 :: 32 :: 35 :: n : Bs), (x == 10) = false := fun x hx => by
    rcases List.mem_cons.1 hx with rfl | hx
    · decide
    rcases List.mem_cons.1 hx with rfl | hx
    · decide
    rcases List.mem_cons.1 hx with rfl | hx
    · decide
    · exact hn x hx
  obtain ⟨p, ps, h1, h2⟩ := wide_split s
  obtain ⟨i, q, h3, h4⟩ := split_tail _ hY (32 :: wideB s)
  have h5 : splitL 10 (32 :: wideB s) = (32 :: wideB p) :: ps.map wideB := splitY_miss 10 32 _ _ _ (by decide) h2
  have hw : ∀ l : List Bs, (l.map wideB).map wordsL = l.map wordsL := fun l => by
    rw [List.map_map]; exact List.map_congr_left fun x _ => wide_words x
  have h6 : (splitL 10 (32 :: wideB s ++ (32 :: 32 :: 35 :: n))).map wordsL = (splitL 10 s).map wordsL := by
    rw [h4, List.map_append, List.map_cons, List.map_nil, words_tail]
    have : (i ++ [q]).map wordsL = (splitL 10 s).map wordsL := by
      rw [← h3, h5, h1, List.map_cons, List.map_cons, hw, words_blank, wide_words]
    rw [← this, List.map_append]; rfl
  rw [show 32 :: (wideB s ++ (32 :: 32 :: 35 :: (n ++ [10, 10]))) = (32 :: wideB s ++ (32 :: 32 :: 35 :: n)) ++ 10 :: [10] from by simp, splitY_cat, parseL_words, parseL_words, List.map_append, h6]
  rw [show (splitL 10 [10]).map wordsL = [[], []] from by decide +kernel]
  unfold parseW
  rw [List.foldl_append]
  have : ∀ o : Option Ow, o.bind (tellL · []) = o := fun o => by cases o <;> rfl
  simp only [List.foldl_cons, List.foldl_nil, this]
theorem wide_len : ∀ s : Bs, (wideB s).length ≤ 2 * s.length
  | [] => Nat.le_refl _
  | c :: r => by
    have ih := wide_len r
    rw [wideB_cons, List.length_append, List.length_cons]
    have : (wideC c).length ≤ 2 := by unfold wideC; split <;> simp
    omega
/-- What the law says of its third reading. -/
theorem parseV_wide (s n : Bs) (hs : s.length ≤ 800) (hz : n.length ≤ 100) (hn : ∀ x ∈ n, (x == 10) = false) : parseV (32 :: (wideB s ++ (32 :: 32 :: 35 :: (n ++ [10, 10])))) = parseV s := by
  have h1 := wide_len s
  unfold parseV
  rw [if_neg (by simp only [List.length_cons, List.length_append, List.length_nil]; omega), if_neg (by omega), parse_wide s n hn]
theorem wide_snoc (s : Bs) (c : UInt8) : wideB (s ++ [c]) = wideB s ++ wideC c := by unfold wideB; rw [List.flatMap_append]; simp
end Go.Proofs.YtkihgbggndikpaaGreatDoor
namespace Go.Proofs.YtkihgbggndikpaaGreatDoor
open Go Go.RowKit Go.Shelf Go.Proofs
attribute [local go_sem] Oper.semAt_some

theorem row_belowX {W W' : World} {b : Nat} {o : Obj} (h : W.heap[b]? = some o) (hb : Below W.heap.size W W') : W'.heap[b]? = some o := (hb.block _ (Array.getElem?_eq_some_iff.1 h).1).trans h
theorem below_newX (w : World) (o : Obj) : Below w.heap.size w (w.alloc o) := (Below.refl _ w).alloc (Nat.le_refl _) _
theorem ext_one (s : ByteArray) (k : Nat) (x : UInt8) (h : s.data.toList[k]? = some x) : (s.extract k (k + 1)).data.toList = [x] := by
  rw [ByteArray.data_extract, Array.toList_extract]
  simp only [List.extract_eq_take_drop, Nat.add_sub_cancel_left]
  obtain ⟨h1, h2⟩ := List.getElem?_eq_some_iff.1 h
  rw [List.drop_eq_getElem_cons h1, List.take_succ_cons, List.take_zero, h2]

set_option maxRecDepth 100000 in
set_option maxHeartbeats 16000000 in
theorem oback_any (s note : ByteArray) (w : World) (hs : s.size ≤ 1000000000000000) (hn : note.size ≤ 1000000000000000) (hm : MaxOk w) (hT : TabsOk w) :
    Calls Tryz.prog 5 #[.string s, .string note] w (BoolPost true w) := by
  have HK := Lib.hid (fun (W : World) (hb : Below w.heap.size w W) => oknown_any W (hm.below hb) (hT.below (Nat.le_refl _) hb))
  by_cases h1 : 800 < s.size
  · have g1 : (800 : Int) < (s.size : Int) := by omega
    go_enter Tryz.func5, Tryz.ntmps5
    have HKN := Lib.hid (HK.out w (Below.refl w.heap.size w))
    go_wp2_with fail
    refine HKN.out.mono ?_
    rintro e w99 ⟨rfl, hb99⟩
    go_wp2_with fail
    go_ret
    exact ⟨rfl, (Below.refl w.heap.size w).trans (hb99.mono (Below.refl w.heap.size w).size)⟩
  · have g1 : ¬ (800 : Int) < (s.size : Int) := by omega
    by_cases h2 : 100 < note.size
    · have g2 : (100 : Int) < (note.size : Int) := by omega
      go_enter Tryz.func5, Tryz.ntmps5
      have HKN := Lib.hid (HK.out w (Below.refl w.heap.size w))
      go_wp2_with fail
      refine HKN.out.mono ?_
      rintro e w99 ⟨rfl, hb99⟩
      go_wp2_with fail
      go_ret
      exact ⟨rfl, (Below.refl w.heap.size w).trans (hb99.mono (Below.refl w.heap.size w).size)⟩
    · have g2 : ¬ (100 : Int) < (note.size : Int) := by omega
      have HP := Lib.hid (fun (x : ByteArray) (W : World) (hb : Below w.heap.size w W) (hx : x.size ≤ 16384) => parse_any x W hx (hm.below hb) (hT.below (Nat.le_refl _) hb))
      have hP1 := HP.out s w (Below.refl _ _) (by omega)
      have hok := (parseV_ok s.data.toList).1
      have hnl := (parseV_ok s.data.toList).2
      have hem := parseV_empty s.data.toList
      have hsh := parse_short (s := s.data.toList)
      have hsl : s.data.toList.length = s.size := Array.length_toList
      obtain ⟨pv, hpv⟩ : ∃ pv, parseV s.data.toList = pv := ⟨_, rfl⟩
      unfold ParsePost at hP1
      rw [hpv] at hP1 hok hnl hem hsh
      obtain ⟨e1, np, ls⟩ := pv
      simp only at hP1 hok hnl hem hsh
      have HP1 := Lib.hid hP1
      have HPV := Lib.hid hpv
      clear hP1 hpv hm hT
      go_enter Tryz.func5, Tryz.ntmps5
      go_wp2_with fail
      refine HP1.out.mono ?_
      clear HP1
      rintro e w1 ⟨v1, rfl, ho1, hb1⟩
      obtain ⟨A1, c1, l1, rfl, hL1, hl1⟩ := ow_agg ho1
      simp only at hl1
      have hn1 := heap_alloc_new w1 (.cells #[.bool np, .slice A1 l1.length c1] 24)
      have hbn1 := below_newX w1 (.cells #[.bool np, .slice A1 l1.length c1] 24)
      obtain ⟨W1, hW1⟩ : ∃ W, w1.alloc (.cells #[.bool np, .slice A1 l1.length c1] 24) = W := ⟨_, rfl⟩
      rw [hW1] at hn1 hbn1
      obtain ⟨b1, hbb1⟩ : ∃ b, w1.heap.size = b := ⟨_, rfl⟩
      rw [hbb1] at hn1
      have HW1 := Lib.hid hW1
      have HBB1 := Lib.hid hbb1
      have HB1 := Lib.hid (hb1.trans (hbn1.mono hb1.size))
      have HL1 := Lib.hid (hL1.below hbn1)
      have HE1 := Lib.hid hl1
      have HN1 := Lib.hid hn1
      clear hn1 hbn1 hW1 hbb1 hb1 hL1 hl1 ho1
      by_cases he : e1 = 0
      · subst he
        have HOK : Hid (∀ x ∈ ls, okL x) := fun x hx => okL_of (hok x hx)
        have hz := hsh rfl
        rw [hsl] at hz
        have HPR := Lib.hid (oprint_any np A1 c1 l1 W1 HL1.out (by rw [HE1.out]; omega))
        have hback := parse_print (o := (np, ls)) HOK.out (by omega)
        rw [HE1.out] at HPR
        obtain ⟨T, hT⟩ : ∃ T, mkB (printO (np, ls)) = T := ⟨_, rfl⟩
        have htz : T.size ≤ 16384 := by rw [← hT, mkB_size]; omega
        have htd : T.data.toList = printO (np, ls) := by rw [← hT, mkB_data]
        rw [← htd] at hback
        rw [hT] at HPR
        have HBK := Lib.hid hback
        have HNL := Lib.hid hnl
        clear hT hok hem hsh hz hback htd hsl hnl
        have d0 : W1.cell? ⟨b1, 0, none⟩ = some (.bool np) := cell_of_row _ _ 0 _ _ _ HN1.out
        have d1 : W1.cell? ⟨b1, 1, none⟩ = some (.slice A1 l1.length c1) := cell_of_row _ _ 1 _ _ _ HN1.out
        go_wp2_with fail
        rw [HW1.out]
        try rw [HBB1.out]
        refine HPR.out.mono ?_
        clear HPR HW1
        rintro e w2 ⟨rfl, hb2⟩
        have HB2 := Lib.hid (HB1.out.trans (hb2.mono HB1.out.size))
        have HP2 := Lib.hid (HP.out T w2 HB2.out htz)
        unfold ParsePost at HP2
        rw [HBK.out] at HP2
        simp only at HP2
        have HN2 := Lib.hid (row_belowX HN1.out hb2)
        have HL2 := Lib.hid (HL1.out.below hb2)
        clear hb2 HBK d0 d1
        go_wp2_with fail
        refine HP2.out.mono ?_
        clear HP2
        rintro e w3 ⟨v3, rfl, ho3, hb3⟩
        obtain ⟨A3, c3, l3, rfl, hL3, hl3⟩ := ow_agg ho3
        simp only at hl3
        have HN3 := Lib.hid (row_belowX HN2.out hb3)
        have HL13 := Lib.hid (HL2.out.below hb3)
        have hB3 := HB2.out.trans (hb3.mono HB2.out.size)
        have hn3 := heap_alloc_new w3 (.cells #[.bool np, .slice A3 l3.length c3] 24)
        have hbn3 := below_newX w3 (.cells #[.bool np, .slice A3 l3.length c3] 24)
        obtain ⟨W3, hW3⟩ : ∃ W, w3.alloc (.cells #[.bool np, .slice A3 l3.length c3] 24) = W := ⟨_, rfl⟩
        rw [hW3] at hn3 hbn3
        obtain ⟨b3, hbb3⟩ : ∃ b, w3.heap.size = b := ⟨_, rfl⟩
        rw [hbb3] at hn3
        have HW3 := Lib.hid hW3
        have HBB3 := Lib.hid hbb3
        have HB3 := Lib.hid (hB3.trans (hbn3.mono hB3.size))
        have HL3 := Lib.hid (hL3.below hbn3)
        have HE3 := Lib.hid hl3
        have HM3 := Lib.hid hn3
        have HN1b := Lib.hid (row_belowX HN3.out hbn3)
        have HL1b := Lib.hid (HL13.out.below hbn3)
        clear hn3 hbn3 hW3 hbb3 hb3 hL3 hl3 ho3 hB3 HN3 HL13 HN2 HL2 HN1 HL1
        go_wp2_with fail
        rw [HW3.out]
        try rw [HBB3.out]
        clear HW3
        have hsz3 : b1 < W3.heap.size ∧ b3 < W3.heap.size := ⟨(Array.getElem?_eq_some_iff.1 HN1b.out).1, (Array.getElem?_eq_some_iff.1 HM3.out).1⟩
        have HSZ3 := Lib.hid hsz3
        clear hsz3
        go_loopw [9, 10] (fun v9 i wr => ∃ (k : Nat) (X : ByteArray), k ≤ s.size ∧ v9 = .string X ∧ i = .int .i64 k ∧ Hid (X.data.toList = wideB (s.data.toList.take k)) ∧ X.size ≤ 2 * k ∧ wr = W3) (fun _ i _ => s.size - (intOf i).toNat)
        case atStart => exact ⟨0, ⟨#[]⟩, Nat.zero_le _, rfl, rfl, rfl, Nat.le_refl _, rfl⟩
        case round =>
          obtain ⟨k, X, hk, rfl, rfl, HX, hxz, hw⟩ := hrel
          have hw := hw.symm
          subst hw
          by_cases hlt : k < s.size
          · obtain ⟨b, hb⟩ : ∃ b, s[k] = b := ⟨_, rfl⟩
            have hbk : s.data.toList[k]? = some b := by rw [Array.getElem?_toList, ← hb]; exact Array.getElem?_eq_getElem hlt
            have htk : s.data.toList.take (k + 1) = s.data.toList.take k ++ [b] := by rw [List.take_add_one, hbk]; rfl
            have hex := ext_one s k b hbk
            have HTK := Lib.hid htk
            obtain ⟨c, hc⟩ : ∃ c : Int, (b.toNat : Int) = c := ⟨_, rfl⟩
            have HC := Lib.hid hc
            obtain ⟨E, hE⟩ : ∃ E, s.extract k (k + 1) = E := ⟨_, rfl⟩
            rw [hE] at hex
            have hez : E.size = 1 := by
              have := congrArg List.length hex
              rw [Array.length_toList] at this; exact this
            have HEX := Lib.hid hex
            have k1 : (k : Int) < (s.size : Int) := by omega
            have k2 : (k : Int) + 1 ≤ (s.size : Int) := by omega
            clear hbk htk hex
            by_cases hc32 : c = 32
            · subst hc32
              have hb32 : b = 32 := by
                have := HC.out
                exact UInt8.toNat_inj.1 (by show b.toNat = 32; omega)
              have HB32 := Lib.hid hb32
              clear hb32
              go_wp2_with fail
              go_roundw
              case rel => exact ⟨k + 1, X ++ ⟨#[32, 32]⟩, by omega, rfl, by go_num, by unfold Hid; rw [HTK.out, wide_snoc, ← HX.out, HB32.out, ByteArray.data_append, Array.toList_append]; rfl, by rw [ByteArray.size_append]; show X.size + 2 ≤ _; omega, by trivial⟩
              case measure => simp [intOf]; omega
            · have e1 : (c == 32) = false := by simpa using hc32
              have hb32 : (b == 32) = false := by
                have := HC.out
                rw [beq_eq_false_iff_ne]; rintro rfl
                exact hc32 (this.symm.trans rfl)
              have HB32 := Lib.hid hb32
              clear hb32
              go_wp2_with fail
              go_roundw
              case rel => exact ⟨k + 1, X ++ E, by omega, rfl, by go_num, by unfold Hid; rw [HTK.out, wide_snoc, ← HX.out, ByteArray.data_append, Array.toList_append, HEX.out]; unfold wideC; rw [HB32.out]; rfl, by rw [ByteArray.size_append, hez]; omega, by trivial⟩
              case measure => simp [intOf]; omega
          · obtain rfl : k = s.size := by omega
            have hX := HX.out
            rw [List.take_of_length_le (by rw [Array.length_toList]; exact Nat.le_refl _)] at hX
            have HXX := Lib.hid hX
            clear hX HX
            go_wp2_with fail
            go_loopw [11] (fun i wr' => ∃ m : Nat, m ≤ note.size ∧ i = .int .i64 m ∧ Hid (∀ x ∈ note.data.toList.take m, (x == 10) = false) ∧ wr' = W3) (fun i _ => note.size - (intOf i).toNat)
            case atStart => exact ⟨0, Nat.zero_le _, rfl, fun x hx => by simp at hx, rfl⟩
            case round =>
              obtain ⟨m, hm, rfl, HNO, hw⟩ := hrel
              have hw := hw.symm
              subst hw
              by_cases hlt2 : m < note.size
              · obtain ⟨b, hb⟩ : ∃ b, note[m] = b := ⟨_, rfl⟩
                have hbk : note.data.toList[m]? = some b := by rw [Array.getElem?_toList, ← hb]; exact Array.getElem?_eq_getElem hlt2
                have htk : note.data.toList.take (m + 1) = note.data.toList.take m ++ [b] := by rw [List.take_add_one, hbk]; rfl
                have HTK := Lib.hid htk
                obtain ⟨c, hc⟩ : ∃ c : Int, (b.toNat : Int) = c := ⟨_, rfl⟩
                have HC := Lib.hid hc
                have k1 : (m : Int) < (note.size : Int) := by omega
                clear hbk htk
                by_cases hc10 : c = 10
                · subst hc10
                  have d0 : W3.cell? ⟨b1, 0, none⟩ = some (.bool np) := cell_of_row _ _ 0 _ _ _ HN1b.out
                  have d1 : W3.cell? ⟨b1, 1, none⟩ = some (.slice A1 l1.length c1) := cell_of_row _ _ 1 _ _ _ HN1b.out
                  have t0 : W3.cell? ⟨b3, 0, none⟩ = some (.bool np) := cell_of_row _ _ 0 _ _ _ HM3.out
                  have t1 : W3.cell? ⟨b3, 1, none⟩ = some (.slice A3 l3.length c3) := cell_of_row _ _ 1 _ _ _ HM3.out
                  have HSA := Lib.hid (osame_any (owV np A1 l1.length c1) (owV np A3 l3.length c3) (np, ls) (np, ls) W3 ⟨A1, c1, l1, rfl, HL1b.out, HE1.out⟩ ⟨A3, c3, l3, rfl, HL3.out, HE3.out⟩)
                  rw [decide_eq_true rfl] at HSA
                  unfold owV at HSA
                  go_wp2_with fail
                  refine HSA.out.mono ?_
                  clear HSA
                  rintro e w5 ⟨rfl, hb5⟩
                  have HB5 := Lib.hid (HB3.out.trans (hb5.mono HB3.out.size))
                  clear hb5 d0 d1 t0 t1
                  have HKN := Lib.hid (HK.out w5 (HB5.out))
                  go_wp2_with fail
                  refine HKN.out.mono ?_
                  rintro e w99 ⟨rfl, hb99⟩
                  go_wp2_with fail
                  go_ret
                  exact ⟨rfl, (HB5.out).trans (hb99.mono (HB5.out).size)⟩
                · have e1 : (c == 10) = false := by simpa using hc10
                  have hb10 : (b == 10) = false := by
                    have := HC.out
                    rw [beq_eq_false_iff_ne]; rintro rfl
                    exact hc10 (this.symm.trans rfl)
                  have HB10 := Lib.hid hb10
                  clear hb10
                  go_wp2_with fail
                  go_roundw
                  case rel =>
                    refine ⟨m + 1, by omega, by go_num, ?_, by trivial⟩
                    unfold Hid
                    rw [HTK.out]
                    intro x hx
                    rcases List.mem_append.1 hx with hx | hx
                    · exact HNO.out x hx
                    · simp only [List.mem_singleton] at hx; subst hx; exact HB10.out
                  case measure => simp [intOf]; omega
              · obtain rfl : m = note.size := by omega
                have hno := HNO.out
                rw [List.take_of_length_le (by rw [Array.length_toList]; exact Nat.le_refl _)] at hno
                obtain ⟨Y, hY⟩ : ∃ Y, (⟨#[32]⟩ ++ X ++ ⟨#[32, 32, 35]⟩ ++ note ++ ⟨#[10, 10]⟩ : ByteArray) = Y := ⟨_, rfl⟩
                have hyd : Y.data.toList = 32 :: (wideB s.data.toList ++ (32 :: 32 :: 35 :: (note.data.toList ++ [10, 10]))) := by
                  rw [← hY, ← HXX.out]; simp
                have hyz : Y.size ≤ 16384 := by
                  rw [← hY]; simp only [ByteArray.size_append]
                  show 1 + X.size + 3 + note.size + 2 ≤ _
                  omega
                have hpy := parseV_wide s.data.toList note.data.toList (by rw [Array.length_toList]; show s.size ≤ 800; omega) (by rw [Array.length_toList]; show note.size ≤ 100; omega) hno
                rw [← hyd, HPV.out] at hpy
                have hP4 := HP.out Y W3 HB3.out hyz
                unfold ParsePost at hP4
                rw [hpy] at hP4
                simp only at hP4
                have HP4 := Lib.hid hP4
                have HY := Lib.hid hY
                clear hP4 hpy hyd hno hY HNO HXX
                go_wp2_with fail
                rw [HY.out]
                refine HP4.out.mono ?_
                clear HP4 HY
                rintro e w4 ⟨v4, rfl, ho4, hb4⟩
                obtain ⟨A4, c4, l4, rfl, hL4, hl4⟩ := ow_agg ho4
                simp only at hl4
                have hB4 := HB3.out.trans (hb4.mono HB3.out.size)
                have n1 := row_belowX HN1b.out hb4
                have n3 := row_belowX HM3.out hb4
                have m1 := HL1b.out.below hb4
                have m3 := HL3.out.below hb4
                have hn4 := heap_alloc_new w4 (.cells #[.bool np, .slice A4 l4.length c4] 24)
                have hbn4 := below_newX w4 (.cells #[.bool np, .slice A4 l4.length c4] 24)
                obtain ⟨W4, hW4⟩ : ∃ W, w4.alloc (.cells #[.bool np, .slice A4 l4.length c4] 24) = W := ⟨_, rfl⟩
                rw [hW4] at hn4 hbn4
                obtain ⟨b4, hbb4⟩ : ∃ b, w4.heap.size = b := ⟨_, rfl⟩
                rw [hbb4] at hn4
                have HW4 := Lib.hid hW4
                have HBB4 := Lib.hid hbb4
                have HB4 := Lib.hid (hB4.trans (hbn4.mono hB4.size))
                have n1 := row_belowX n1 hbn4
                have n3 := row_belowX n3 hbn4
                have m1 := m1.below hbn4
                have m3 := m3.below hbn4
                have m4 := hL4.below hbn4
                have d0 : W4.cell? ⟨b1, 0, none⟩ = some (.bool np) := cell_of_row _ _ 0 _ _ _ n1
                have d1 : W4.cell? ⟨b1, 1, none⟩ = some (.slice A1 l1.length c1) := cell_of_row _ _ 1 _ _ _ n1
                have t0 : W4.cell? ⟨b3, 0, none⟩ = some (.bool np) := cell_of_row _ _ 0 _ _ _ n3
                have t1 : W4.cell? ⟨b3, 1, none⟩ = some (.slice A3 l3.length c3) := cell_of_row _ _ 1 _ _ _ n3
                have u0 : W4.cell? ⟨b4, 0, none⟩ = some (.bool np) := cell_of_row _ _ 0 _ _ _ hn4
                have u1 : W4.cell? ⟨b4, 1, none⟩ = some (.slice A4 l4.length c4) := cell_of_row _ _ 1 _ _ _ hn4
                have HSA := Lib.hid (osame_any (owV np A1 l1.length c1) (owV np A3 l3.length c3) (np, ls) (np, ls) W4 ⟨A1, c1, l1, rfl, m1, HE1.out⟩ ⟨A3, c3, l3, rfl, m3, HE3.out⟩)
                rw [decide_eq_true rfl] at HSA
                unfold owV at HSA
                have HSB := Lib.hid (fun (W : World) (hb : Below W4.heap.size W4 W) => osame_any (owV np A1 l1.length c1) (owV np A4 l4.length c4) (np, ls) (np, ls) W ⟨A1, c1, l1, rfl, m1.below hb, HE1.out⟩ ⟨A4, c4, l4, rfl, m4.below hb, hl4⟩)
                rw [decide_eq_true rfl] at HSB
                unfold owV at HSB
                have N1 := Lib.hid n1
                have N4 := Lib.hid hn4
                clear n1 n3 m1 m3 m4 hn4 hbn4 hL4 hl4 ho4 hB4 hb4 hW4 hbb4
                go_upto_region 20 with (fail)
                rw [HW4.out]
                try rw [HBB4.out]
                clear HW4
                go_wp2_with fail
                refine HSA.out.mono ?_
                clear HSA
                rintro e w5 ⟨rfl, hb5⟩
                have HB5 := Lib.hid (HB4.out.trans (hb5.mono HB4.out.size))
                have n1 := row_belowX N1.out hb5
                have n4 := row_belowX N4.out hb5
                have HSB5 := Lib.hid (HSB.out w5 hb5)
                clear hb5 d0 d1 t0 t1 u0 u1 HSB
                have d0 : w5.cell? ⟨b1, 0, none⟩ = some (.bool np) := cell_of_row _ _ 0 _ _ _ n1
                have d1 : w5.cell? ⟨b1, 1, none⟩ = some (.slice A1 l1.length c1) := cell_of_row _ _ 1 _ _ _ n1
                have u0 : w5.cell? ⟨b4, 0, none⟩ = some (.bool np) := cell_of_row _ _ 0 _ _ _ n4
                have u1 : w5.cell? ⟨b4, 1, none⟩ = some (.slice A4 l4.length c4) := cell_of_row _ _ 1 _ _ _ n4
                clear n1 n4
                go_wp2_with fail
                refine HSB5.out.mono ?_
                clear HSB5
                rintro e w6 ⟨rfl, hb6⟩
                have HB6 := Lib.hid (HB5.out.trans (hb6.mono HB5.out.size))
                clear hb6 d0 d1 u0 u1
                have HKN := Lib.hid (HK.out w6 (HB6.out))
                go_wp2_with fail
                refine HKN.out.mono ?_
                rintro e w99 ⟨rfl, hb99⟩
                go_wp2_with fail
                go_ret
                exact ⟨rfl, (HB6.out).trans (hb99.mono (HB6.out).size)⟩

      · have e2 : (e1 != 0) = true := by simpa using he
        have e3 : (e1 = 0) = False := eq_false he
        have hemp := hem he
        have hnp : np = false := congrArg Prod.fst hemp
        have hls : ls = [] := congrArg Prod.snd hemp
        subst hnp
        subst hls
        have hl10 : l1 = [] := by
          have := congrArg List.length HE1.out
          rw [lnsX_length] at this
          exact List.eq_nil_of_length_eq_zero this
        subst hl10
        have HSM := Lib.hid (osame_any (owV false A1 0 c1) (owV false none 0 0) emptyO emptyO W1 ⟨A1, c1, [], rfl, HL1.out, rfl⟩ (OwAt.empty _))
        rw [decide_eq_true rfl] at HSM
        unfold owV at HSM
        have d0 : W1.cell? ⟨b1, 0, none⟩ = some (.bool false) := cell_of_row _ _ 0 _ _ _ HN1.out
        have d1 : W1.cell? ⟨b1, 1, none⟩ = some (.slice A1 0 c1) := cell_of_row _ _ 1 _ _ _ HN1.out
        clear hok hem hsh hsl hnl
        go_wp2_with fail
        rw [show w1.alloc (.cells #[.bool false, .slice A1 0 c1] 24) = W1 from HW1.out]
        try rw [HBB1.out]
        refine HSM.out.mono ?_
        clear HSM HW1
        rintro e w2 ⟨rfl, hb2⟩
        have HB2 := Lib.hid (HB1.out.trans (hb2.mono HB1.out.size))
        clear hb2
        have HKN := Lib.hid (HK.out w2 (HB2.out))
        go_wp2_with fail
        refine HKN.out.mono ?_
        rintro e w99 ⟨rfl, hb99⟩
        go_wp2_with fail
        go_ret
        exact ⟨rfl, (HB2.out).trans (hb99.mono (HB2.out).size)⟩
end Go.Proofs.YtkihgbggndikpaaGreatDoor
