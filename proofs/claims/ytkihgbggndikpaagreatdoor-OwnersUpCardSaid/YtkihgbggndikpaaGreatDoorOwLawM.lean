/-
  The contract of the document's own Under, in the words of layer 2. · Plain: trees whose OWNERS have a name more, or are other ones above or below: whose their files are. No program is named here. · The document's own Add, of no text yet. · The law OwnersMore: with a name more in a directory's OWNERS.
-/
import Derived.Test.YtkihgbggndikpaaGreatDoorRefGlob
import Derived.Test.YtkihgbggndikpaaGreatDoorTPlain
import Derived.Test.YtkihgbggndikpaaGreatDoorOwLawT
import Derived.Test.YtkihgbggndikpaaGreatDoorOwRefs
import Derived.Test.YtkihgbggndikpaaGreatDoorFits
namespace Go.Proofs.YtkihgbggndikpaaGreatDoor
open Go Go.RowKit Go.Shelf Go.Proofs
attribute [local go_sem] Oper.semAt_some

theorem underL_parts (s d : ByteArray) (hd : d.toList ≠ []) (hl : d.size < s.size) :
    underL s.data.toList d.data.toList = (((s.extract 0 d.size).toList == d.toList) && (((s[d.size]'hl).toNat : Int) == 47)) := by
  have e1 : d.data.toList.length = d.size := Array.length_toList
  have e2 : s.data.toList.length = s.size := Array.length_toList
  have he : d.data.toList.isEmpty = false := by rw [ByteArray.toList_eq] at hd; simpa using hd
  have hk : s.data.toList[d.size]? = some s[d.size] := by rw [List.getElem?_eq_getElem (by omega)]; rfl
  have hsp := drop_some hk
  unfold underL
  rw [he, Bool.false_or, ByteArray.toList_eq, ByteArray.toList_eq, Lib.extract_data, Bool.eq_iff_iff, List.isPrefixOf_iff_prefix, Bool.and_eq_true, beq_iff_eq, beq_iff_eq]
  have h47 : (s[d.size].toNat : Int) = 47 ↔ s[d.size] = 47 := by
    rw [← UInt8.toNat_inj]; show _ ↔ _ = 47; omega
  rw [h47]
  simp only [List.drop_zero, Nat.sub_zero]
  constructor
  · rintro ⟨t, ht⟩
    have h1 : s.data.toList.take d.size = d.data.toList := by rw [← ht, ← e1]; simp
    refine ⟨h1, ?_⟩
    have : s.data.toList[d.size]? = some 47 := by rw [← ht, ← e1]; simp
    rw [hk] at this; exact Option.some.inj this
  · rintro ⟨h1, h2⟩
    refine ⟨s.data.toList.drop (d.size + 1), ?_⟩
    conv => rhs; rw [← List.take_append_drop d.size s.data.toList, hsp, h1, h2]
    simp

set_option maxHeartbeats 2000000 in
theorem refunderL_any (s d : ByteArray) (w : World) (_hs : s.size ≤ 1000000) (hd : d.size ≤ 1000000) :
    Calls Tryz.prog 33 #[.string s, .string d] w fun e w' => e = .returned (.bool (underL s.data.toList d.data.toList)) ∧ w' = w := by
  by_cases h1 : d.toList = []
  · have g1 : d.toList.isEmpty = true := by simp [h1]
    have hr : underL s.data.toList d.data.toList = true := by unfold underL; rw [← ByteArray.toList_eq d, h1]; rfl
    have HR := Lib.hid hr; clear hr h1
    go_enter Tryz.func33, Tryz.ntmps33
    go_wp2_with fail
    go_ret
    exact ⟨ret_bool HR.out.symm, rfl⟩
  · have g1 : d.toList.isEmpty = false := by simpa using h1
    by_cases h2 : d.size < s.size
    · have hr := underL_parts s d h1 h2
      have h3 : (d.size : Int) < (s.size : Int) := by omega
      obtain ⟨b, hb⟩ : ∃ b, s[d.size] = b := ⟨_, rfl⟩
      rw [hb] at hr
      cases c1 : ((s.extract 0 d.size).toList == d.toList) with
      | false =>
        rw [c1] at hr
        have HR := Lib.hid hr; clear hr
        clear h1
        go_enter Tryz.func33, Tryz.ntmps33
        go_wp2_with fail
        go_ret
        exact ⟨ret_bool (by rw [HR.out]; rfl), rfl⟩
      | true =>
        cases c2 : ((b.toNat : Int) == 47) with
        | false =>
          rw [c1, c2] at hr
          have HR := Lib.hid hr; clear hr
          clear h1
          go_enter Tryz.func33, Tryz.ntmps33
          go_wp2_with fail
          go_ret
          exact ⟨ret_bool (by rw [HR.out]; rfl), rfl⟩
        | true =>
          rw [c1, c2] at hr
          have HR := Lib.hid hr; clear hr
          clear h1
          go_enter Tryz.func33, Tryz.ntmps33
          go_wp2_with fail
          go_ret
          exact ⟨ret_bool (by rw [HR.out]; rfl), rfl⟩
    · have hr : underL s.data.toList d.data.toList = false := by
        have e1 : d.data.toList.length = d.size := Array.length_toList
        have e2 : s.data.toList.length = s.size := Array.length_toList
        have he : d.data.toList.isEmpty = false := by rw [ByteArray.toList_eq] at h1; simpa using h1
        unfold underL
        rw [he, Bool.false_or]
        cases e : (d.data.toList ++ [47]).isPrefixOf s.data.toList with
        | false => rfl
        | true =>
          have := (List.isPrefixOf_iff_prefix.1 e).length_le
          simp only [List.length_append, List.length_cons, List.length_nil] at this
          omega
      have h3 : ¬ ((d.size : Int) < (s.size : Int)) := by omega
      have h4 : (s.size : Int) ≤ (d.size : Int) := by omega
      have HR := Lib.hid hr; clear hr h1
      go_enter Tryz.func33, Tryz.ntmps33
      go_wp2_with fail
      go_ret
      exact ⟨ret_bool HR.out.symm, rfl⟩
end Go.Proofs.YtkihgbggndikpaaGreatDoor
namespace Go.Proofs.YtkihgbggndikpaaGreatDoor
open Go

/-! Directories upward. -/
theorem ups_underN : ∀ (n : Nat) (d : Bs), d.length ≤ n → ∀ x ∈ ups d, x = d ∨ x = [] ∨ underL d x = true
  | n, d, h, x, hx => by
    rw [ups_step] at hx
    rcases List.mem_cons.1 hx with rfl | hx
    · exact .inl rfl
    · by_cases e : d.isEmpty = true
      · rw [if_pos e] at hx; cases hx
      · rw [if_neg e] at hx
        have h1 := dirL_less (by simpa using e : d.isEmpty = false)
        rcases ups_underN (n - 1) (dirL d) (by omega) x hx with rfl | h2 | h2
        · by_cases hd : dirL d = []
          · exact .inr (.inl hd)
          · exact .inr (.inr (dir_under hd))
        · exact .inr (.inl h2)
        · by_cases hq : x = []
          · exact .inr (.inl hq)
          · by_cases hd : dirL d = []
            · rw [hd, under_nil hq] at h2; cases h2
            · exact .inr (.inr (under_trans hd hq (dir_under hd) h2))
termination_by _n d => d.length
theorem ups_under (s : Bs) : ∀ x ∈ ups (dirL s), underL s x = true := fun x hx => by
  by_cases hq : x = []
  · subst hq; rfl
  · rcases ups_underN (dirL s).length (dirL s) (Nat.le_refl _) x hx with rfl | h | h
    · exact dir_under hq
    · exact absurd h hq
    · by_cases hd : dirL s = []
      · rw [hd, under_nil hq] at h; cases h
      · exact under_trans hd hq (dir_under hd) h
theorem join_inj {d e : Bs} (h : join2 d ownW = join2 e ownW) : d = e := by
  by_cases hd : d = []
  · by_cases he : e = []
    · rw [hd, he]
    · have := congrArg List.length h
      rw [join_len he, hd] at this
      have h6 : (join2 [] ownW).length = 6 := rfl
      omega
  · by_cases he : e = []
    · have := congrArg List.length h
      rw [join_len hd, he] at this
      have h6 : (join2 [] ownW).length = 6 := rfl
      omega
    · unfold join2 at h
      rw [if_neg hd, if_neg (by decide), if_neg he, if_neg (by decide)] at h
      have hl := congrArg List.length h
      simp only [List.length_append, List.length_cons] at hl
      exact (List.append_inj h (by omega)).1

/-! A name more. -/
theorem parseL_fold (a b : List Bs) : parseL (a ++ b) = b.foldl (fun o l => o.bind (tellL · (wordsL l))) (parseL a) := by unfold parseL; rw [List.foldl_append]
theorem parse_more {b n : Bs} (hn : namedB n = true) (h : (parseV (b ++ 10 :: (n ++ [10]))).1 = 0) :
    (parseV b).1 = 0 → parseV (b ++ 10 :: (n ++ [10])) = (0, ((parseV b).2.1, (parseV b).2.2 ++ [([], [n])])) := fun hb => by
  have e3 : ¬ 16384 < (b ++ 10 :: (n ++ [10])).length := fun e => by
    unfold parseV at h; rw [if_pos e] at h; cases h
  have e1 : ¬ 16384 < b.length := fun e => e3 (by rw [List.length_append]; omega)
  unfold parseV at hb ⊢
  rw [if_neg e1] at hb ⊢
  rw [if_neg e3]
  have hs : splitL 10 (n ++ [10]) = [n] ++ [[]] := by
    have := split_body [n] (fun m hm => by simp only [List.mem_singleton] at hm; subst hm; exact hn)
    rwa [show bodyN [n] = n ++ [10] from by unfold bodyN nameB_; simp] at this
  rw [splitY_cat, hs, parseL_fold]
  cases e : parseL (splitL 10 b) with
  | none => rw [e] at hb; cases hb
  | some o =>
    have : ([n] ++ [[]] : List Bs).foldl (fun o l => o.bind (tellL · (wordsL l))) (some o) = some (o.1, o.2 ++ [([], [n])]) := by
      show (tellL o (wordsL n)).bind (tellL · (wordsL [])) = _
      rw [words_named hn, tell_name o hn]
      rfl
    rw [this]
theorem getT_body (t : List Fl) (d : Bs) : atT t d = parseV ((getT t (join2 d ownW)).getD []) := by
  unfold atT
  cases getT t (join2 d ownW) with
  | none => rfl
  | some b => rfl
structure MoreT (t u : List Fl) (dir n : Bs) : Prop where
  other : ∀ d, d ≠ dir → atT u d = atT t d
  here : (atT t dir).1 = 0 → (atT u dir).1 = 0 → atT u dir = (0, ((atT t dir).2.1, (atT t dir).2.2 ++ [([], [n])]))
theorem more_put (t : List Fl) (dir n : Bs) (hn : namedB n = true) : MoreT t (putT t (join2 dir ownW, (getT t (join2 dir ownW)).getD [] ++ 10 :: (n ++ [10]))) dir n := by
  refine ⟨fun d hd => ?_, fun h1 h2 => ?_⟩
  · unfold atT
    rw [get_put_other _ _ (fun e => hd (join_inj e))]
  · have hu : atT (putT t (join2 dir ownW, (getT t (join2 dir ownW)).getD [] ++ 10 :: (n ++ [10]))) dir = parseV ((getT t (join2 dir ownW)).getD [] ++ 10 :: (n ++ [10])) := by
      unfold atT
      rw [get_put t (join2 dir ownW, (getT t (join2 dir ownW)).getD [] ++ 10 :: (n ++ [10]))]
    rw [hu] at h2 ⊢
    rw [getT_body] at h1 ⊢
    exact parse_more hn h2 h1
theorem gather_more (K : List Bs) (ls : List Ln) (n : Bs) (p : Bs → Bool) : gatherS K (ls ++ [([], [n])]) p = addS (gatherS K ls p) n := by
  unfold gatherS
  rw [List.foldl_append]
  rfl
theorem gather_add {K : List Bs} (hK : risingB K) (ls : List Ln) (n : Bs) (p : Bs → Bool) : gatherS (addS K n) ls p = addS (gatherS K ls p) n := by
  refine rising_ext _ _ (gatherS_rising p ls _ (addS_rising n K hK)) (addS_rising n _ (gatherS_rising p ls K hK)) fun x => ?_
  rw [gatherS_mem, addS_mem, addS_mem, gatherS_mem]
  constructor
  · rintro (h | h | h)
    · exact .inr (.inl h)
    · exact .inl h
    · exact .inr (.inr h)
  · rintro (h | h | h)
    · exact .inr (.inl h)
    · exact .inl h
    · exact .inr (.inr h)
theorem add_twice {K : List Bs} (hK : risingB K) (n : Bs) : addS (addS K n) n = addS K n := by
  refine rising_ext _ _ (addS_rising n _ (addS_rising n K hK)) (addS_rising n K hK) fun x => ?_
  rw [addS_mem, addS_mem]
  constructor
  · rintro (h | h)
    · exact .inl h
    · exact h
  · exact .inr
theorem ofStep_more {t u : List Fl} {dir n : Bs} (M : MoreT t u dir n) (home base : Bs) : ∀ (ds K K' : List Bs), risingB K → (K' = K ∨ K' = addS K n) → (ofStep t home base ds K).1 = 0 → (ofStep u home base ds K').1 = 0 →
    (ofStep u home base ds K').2 = (ofStep t home base ds K).2 ∨ (ofStep u home base ds K').2 = addS (ofStep t home base ds K).2 n
  | [], K, K', _, h, _, _ => h
  | d :: ds, K, K', hK, h, h1, h2 => by
    have e1 : (atT t d).1 = 0 := by
      by_cases e : (atT t d).1 = 0
      · exact e
      · rw [ofStep_unfold, if_neg e] at h1; exact absurd h1 e
    have e2 : (atT u d).1 = 0 := by
      by_cases e : (atT u d).1 = 0
      · exact e
      · rw [ofStep_unfold, if_neg e] at h2; exact absurd h2 e
    have hg : (atT u d).2.1 = (atT t d).2.1 ∧ (gatherS K' (atT u d).2.2 (askB home base d) = gatherS K (atT t d).2.2 (askB home base d) ∨ gatherS K' (atT u d).2.2 (askB home base d) = addS (gatherS K (atT t d).2.2 (askB home base d)) n) := by
      by_cases hd : d = dir
      · subst hd
        rw [M.here e1 e2]
        refine ⟨rfl, .inr ?_⟩
        show gatherS K' ((atT t d).2.2 ++ [([], [n])]) _ = _
        rw [gather_more]
        rcases h with rfl | rfl
        · rfl
        · rw [gather_add hK, add_twice (gatherS_rising _ _ _ hK)]
      · rw [M.other d hd]
        refine ⟨rfl, ?_⟩
        rcases h with rfl | rfl
        · exact .inl rfl
        · exact .inr (gather_add hK _ _ _)
    rw [ofStep_unfold, if_pos e1] at h1
    rw [ofStep_unfold, if_pos e2] at h2
    rw [ofStep_unfold u, if_pos e2, ofStep_unfold t, if_pos e1]
    rw [hg.1] at h2 ⊢
    by_cases hp : (atT t d).2.1 = true
    · rw [if_pos hp, if_pos hp]; exact hg.2
    · rw [if_neg hp] at h1 h2 ⊢
      rw [if_neg hp]
      exact ofStep_more M home base ds _ _ (gatherS_rising _ _ _ hK) hg.2 h1 h2
theorem ofStep_same {t u : List Fl} {dir n : Bs} (M : MoreT t u dir n) (home base : Bs) : ∀ (ds K : List Bs), (∀ d ∈ ds, d ≠ dir) → ofStep u home base ds K = ofStep t home base ds K
  | [], _, _ => rfl
  | d :: ds, K, h => by
    rw [ofStep_unfold, ofStep_unfold, M.other d (h d (by simp)), ofStep_same M home base ds _ (fun x hx => h x (by simp [hx]))]
/-- What the law OwnersMore says. -/
theorem ofT_more {t u : List Fl} {dir n : Bs} (M : MoreT t u dir n) (s : Bs) (h1 : (ofT t s).1 = 0) (h2 : (ofT u s).1 = 0) :
    (underL s dir = false → (ofT u s).2 = (ofT t s).2) ∧ ((ofT u s).2 = addS (ofT t s).2 n ∨ (ofT u s).2 = (ofT t s).2) := by
  unfold ofT at h1 h2 ⊢
  by_cases hr : rightB s = true
  · rw [if_pos hr] at h1 h2 ⊢
    rw [if_pos hr]
    refine ⟨fun hu => ?_, (ofStep_more M _ _ _ [] [] List.Pairwise.nil (.inl rfl) h1 h2).symm⟩
    rw [ofStep_same M _ _ _ _ fun d hd e => by rw [e] at hd; rw [ups_under s dir hd] at hu; cases hu]
  · rw [if_neg hr] at h1; cases h1

/-! Above, and below. -/
theorem ofStep_named (t : List Fl) (home base : Bs) : ∀ (ds K : List Bs), (∀ p ∈ K, namedB p = true) → ∀ p ∈ (ofStep t home base ds K).2, namedB p = true
  | [], _, h => h
  | d :: ds, K, h => by
    have hg : ∀ p ∈ gatherS K (atT t d).2.2 (askB home base d), namedB p = true := fun p hp => by
      rcases (gatherS_mem _ _ _ _).1 hp with ⟨y, hy, _, hx⟩ | hp
      · exact ((atT_ok t d).1 y hy).2.2.1 p hx
      · exact h p hp
    rw [ofStep_unfold]
    by_cases e : (atT t d).1 = 0
    · rw [if_pos e]
      by_cases hp : (atT t d).2.1 = true
      · rw [if_pos hp]; exact hg
      · rw [if_neg hp]; exact ofStep_named t home base ds _ hg
    · rw [if_neg e]; intro p hp; cases hp
theorem ofT_named (t : List Fl) (s : Bs) : ∀ p ∈ (ofT t s).2, namedB p = true := by
  unfold ofT
  split
  · exact ofStep_named t _ _ _ [] (fun p hp => by cases hp)
  · intro p hp; cases hp
theorem ofT_rises (t : List Fl) (s : Bs) : risingB (ofT t s).2 := by
  unfold ofT
  split
  · exact ofStep_rising t _ _ _ [] List.Pairwise.nil
  · exact List.Pairwise.nil
theorem ofT_wrong (t : List Fl) (s : Bs) (h : (ofT t s).1 ≠ 0) : (ofT t s).2 = [] := by
  have gen : ∀ (home base : Bs) (ds K : List Bs), (ofStep t home base ds K).1 ≠ 0 → (ofStep t home base ds K).2 = [] := by
    intro home base ds
    induction ds with
    | nil => intro K h; exact absurd rfl h
    | cons d ds ih =>
      intro K h
      rw [ofStep_unfold] at h ⊢
      by_cases e : (atT t d).1 = 0
      · rw [if_pos e] at h ⊢
        by_cases hp : (atT t d).2.1 = true
        · rw [if_pos hp] at h; exact absurd rfl h
        · rw [if_neg hp] at h ⊢; exact ih _ h
      · rw [if_neg e]
  unfold ofT at h ⊢
  split
  · rename_i hr; rw [if_pos hr] at h; exact gen _ _ _ _ h
  · rfl
def meB : Bs := [115, 101, 116, 32, 110, 111, 112, 97, 114, 101, 110, 116, 10, 109, 101, 10]
theorem parse_me : parseV meB = (0, (true, [([], [[109, 101]])])) := by decide +kernel
theorem ofT_me (t : List Fl) (s : Bs) (hr : rightB s = true) : ofT (putT t (join2 (dirL s) ownW, meB)) s = (0, [[109, 101]]) := by
  have ha : atT (putT t (join2 (dirL s) ownW, meB)) (dirL s) = (0, (true, [([], [[109, 101]])])) := by
    unfold atT
    rw [get_put t (join2 (dirL s) ownW, meB)]
    exact parse_me
  unfold ofT
  rw [if_pos hr, ups_step, ofStep_unfold, ha]
  rfl
theorem ofStep_home (t : List Fl) (h1 b1 h2 b2 : Bs) : ∀ (ds K : List Bs), (∀ d ∈ ds, d ≠ h1 ∧ d ≠ h2) → ofStep t h1 b1 ds K = ofStep t h2 b2 ds K
  | [], _, _ => rfl
  | d :: ds, K, h => by
    have e1 : ∀ g, askB h1 b1 d g = false := fun g => by unfold askB; rw [beq_eq_false_iff_ne.2 (h d (by simp)).1]; rfl
    have e2 : ∀ g, askB h2 b2 d g = false := fun g => by unfold askB; rw [beq_eq_false_iff_ne.2 (h d (by simp)).2]; rfl
    have e : askB h1 b1 d = askB h2 b2 d := funext fun g => (e1 g).trans (e2 g).symm
    rw [ofStep_unfold, ofStep_unfold, e, ofStep_home t h1 b1 h2 b2 ds _ (fun x hx => h x (by simp [hx]))]
def zzW : Bs := [122, 122]
def zzO : Bs := [122, 122, 47, 79, 87, 78, 69, 82, 83]
theorem zz_join {dir : Bs} (hd : dir ≠ []) : join2 (dir ++ 47 :: zzW) ownW = join2 dir zzO := by
  unfold join2
  rw [if_neg (by simp), if_neg (by decide), if_neg hd, if_neg (by decide), List.append_assoc]
  rfl
theorem zz_name {dir name : Bs} (hd : dir ≠ []) : join2 dir ([122, 122, 47] ++ name) = dir ++ 47 :: (zzW ++ 47 :: name) := by
  unfold join2
  rw [if_neg hd, if_neg (by simp)]
  rfl
theorem right_zz {dir name : Bs} (hr : rightB (dir ++ 47 :: name) = true) (hl : (dir ++ 47 :: name).length ≤ 80) : rightB (dir ++ 47 :: (zzW ++ 47 :: name)) = true := by
  unfold rightB partsB at hr ⊢
  rw [splitY_cat, List.all_append, Bool.and_eq_true, Bool.and_eq_true] at hr
  rw [splitY_cat, splitY_cat, List.all_append, List.all_append, hr.2.1, hr.2.2]
  have h1 : (splitL 47 zzW).all nameB = true := by decide
  rw [h1]
  have h2 : (dir ++ 47 :: (zzW ++ 47 :: name)).length ≤ 100 := by
    simp only [List.length_append, List.length_cons] at hl ⊢
    have : zzW.length = 2 := rfl
    omega
  rw [decide_eq_true h2]; rfl
theorem drop_at (t : List Fl) (d : Bs) : atT (dropT t (join2 d ownW)) d = (0, emptyO) := by
  unfold atT
  rw [get_none (hasT_drop_self t _)]
theorem drop_at_other (t : List Fl) (d : Bs) {p : Bs} (h : join2 d ownW ≠ p) : atT (dropT t p) d = atT t d := by
  unfold atT
  rw [get_drop_other t h]
/-- What the law OwnersUp says last: a file of a directory, and one of its name in one below. -/
theorem ofT_zz (t : List Fl) {dir name : Bs} (hd : dir ≠ []) (hn : ∀ c ∈ name, c ≠ 47) (hr : rightB (dir ++ 47 :: name) = true) (hl : (dir ++ 47 :: name).length ≤ 80) :
    ofT (dropT (dropT t (join2 dir ownW)) (join2 dir zzO)) (dir ++ 47 :: name) = ofT (dropT (dropT t (join2 dir ownW)) (join2 dir zzO)) (dir ++ 47 :: (zzW ++ 47 :: name)) := by
  have hne : dir.isEmpty = false := by
    cases dir with
    | nil => exact absurd rfl hd
    | cons _ _ => rfl
  have hz : (dir ++ 47 :: zzW).isEmpty = false := by cases dir <;> rfl
  have d1 : dirL (dir ++ 47 :: name) = dir := dirL_slash dir name hn
  have d2 : dirL (dir ++ 47 :: (zzW ++ 47 :: name)) = dir ++ 47 :: zzW := by
    rw [show dir ++ 47 :: (zzW ++ 47 :: name) = (dir ++ 47 :: zzW) ++ 47 :: name from by simp]
    exact dirL_slash _ name hn
  have d3 : dirL (dir ++ 47 :: zzW) = dir := dirL_slash dir zzW (by decide)
  have a1 : atT (dropT (dropT t (join2 dir ownW)) (join2 dir zzO)) dir = (0, emptyO) := by
    rw [drop_at_other _ _ (fun e => ?_)]
    · exact drop_at _ _
    · have := congrArg List.length e
      rw [join_len hd] at this
      unfold join2 at this
      rw [if_neg hd, if_neg (by decide), List.length_append, List.length_cons] at this
      have h9 : zzO.length = 9 := rfl
      omega
  have a2 : atT (dropT (dropT t (join2 dir ownW)) (join2 dir zzO)) (dir ++ 47 :: zzW) = (0, emptyO) := by
    rw [← zz_join hd]; exact drop_at _ _
  unfold ofT
  rw [if_pos hr, if_pos (right_zz hr hl), d1, d2, ups_step (dir ++ 47 :: zzW), ofStep_unfold (d := dir ++ 47 :: zzW), a2]
  simp only [if_true, emptyO, Bool.false_eq_true, if_false, hz]
  rw [d3]
  have g0 : ∀ (p : Bs → Bool), gatherS [] [] p = [] := fun _ => rfl
  rw [g0, ups_step dir, ofStep_unfold, ofStep_unfold, a1]
  simp only [if_true, emptyO, Bool.false_eq_true, if_false, hne]
  rw [g0, g0]
  refine ofStep_home _ _ _ _ _ _ _ fun d hx => ?_
  have := ups_small (dirL dir).length (dirL dir) (Nat.le_refl _) d hx
  have h3 := dir_shorter hd
  refine ⟨fun e => ?_, fun e => ?_⟩
  · rw [e] at this; omega
  · rw [e, List.length_append, List.length_cons] at this; omega
end Go.Proofs.YtkihgbggndikpaaGreatDoor
namespace Go.Proofs.YtkihgbggndikpaaGreatDoor
open Go Go.RowKit Go.Shelf Go.Proofs
attribute [local go_sem] Oper.semAt_some

set_option maxRecDepth 100000 in
set_option maxHeartbeats 8000000 in
theorem refadd_none (A : Option Addr) (c : Nat) (s : ByteArray) (w : World) (hcm : c ≤ maxLen) :
    Calls Tryz.prog 34 #[.slice A 0 c, .string s] w (TxPost [s.data.toList] w) := by
  unfold maxLen at hcm
  go_enter Tryz.func34, Tryz.ntmps34
  go_wp2_with fail
  go_loop [5] (fun i => i = .int .i64 0) (fun _ => 0)
  case atStart => rfl
  case round =>
    subst hrel
    cases A with
    | none =>
      by_cases hc0 : c = 0
      · subst hc0
        go_upto_region 8 with (at_builtin; go_loud (refine wpList_append_strs rfl _ _ rfl w.heap.size (.slice none 0 0) [] [] _ 0 0 _ rfl rfl rfl (World.ownsRow_nil _ _ _ _) rfl (StrsAt.nil _ _) (by decide) (Nat.le_refl _) ?_; intro v3 w3 hown3 hg3; have hb3 := below_grow (World.ownsRow_nil _ _ _ _) hg3 (Nat.le_refl _); rw [List.nil_append] at hown3; obtain ⟨A3, c3, hv3, _, _⟩ := ownsRow_slice hown3; subst hv3; have HO3 := Lib.hid hown3; have HB3 := Lib.hid hb3; clear hown3 hb3 hg3))
        go_upto_region 9 with (at_builtin; go_loud (refine wpList_append_strs rfl _ _ rfl w.heap.size (.slice A3 0 c3) [] [s.data.toList] (some ⟨w3.heap.size, 0, none⟩) 0 1 1 rfl rfl rfl (HO3.out.alloc _) rfl (one_at w3 s) (by simp only [List.length_cons, List.length_nil]; omega) (by rw [World.size_alloc]; have := HB3.out.size; omega) ?_; intro v4 w4 hown4 hg4; have hb4 := HB3.out.trans (((Below.refl _ _).alloc HB3.out.size _).trans (below_grow (HO3.out.alloc _) hg4 (by rw [World.size_alloc]; have := HB3.out.size; omega))); obtain ⟨A4, c4, hv4, _, _⟩ := ownsRow_slice hown4; subst hv4; have HO4 := Lib.hid hown4; have HB4 := Lib.hid hb4; clear hown4 hb4 hg4))
        go_upto_region 10 with (at_builtin; go_loud (refine wpList_append_strs rfl _ _ rfl w.heap.size (.slice A4 1 c4) [s.data.toList] [] _ 1 0 _ rfl rfl rfl HO4.out rfl (StrsAt.nil _ _) (by simp only [List.length_cons, List.length_nil]; omega) HB4.out.size ?_; intro v5 w5 hown5 hg5; have hb5 := HB4.out.trans (below_grow HO4.out hg5 HB4.out.size); rw [List.append_nil] at hown5; obtain ⟨A5, c5, hv5, hst5, hc5, hcm5⟩ := strsT_own hown5 rfl; subst hv5; have HST5 := Lib.hid hst5; have HB5 := Lib.hid hb5; have HC5 := Lib.hid hc5; clear hown5 hb5 hg5 hc5))
        go_wp2_with fail
        go_ret
        exact ⟨A5, c5, rfl, HST5.out.at_, HC5.out, hcm5, HB5.out⟩
      · have e5 : c ≠ 0 := hc0
        have e6 : 0 < c := by omega
        go_upto_region 8 with (at_builtin; go_loud (refine wpList_append_strs rfl _ _ rfl w.heap.size (.slice none 0 0) [] [] _ 0 0 _ rfl rfl rfl (World.ownsRow_nil _ _ _ _) rfl (StrsAt.nil _ _) (by decide) (Nat.le_refl _) ?_; intro v3 w3 hown3 hg3; have hb3 := below_grow (World.ownsRow_nil _ _ _ _) hg3 (Nat.le_refl _); rw [List.nil_append] at hown3; obtain ⟨A3, c3, hv3, _, _⟩ := ownsRow_slice hown3; subst hv3; have HO3 := Lib.hid hown3; have HB3 := Lib.hid hb3; clear hown3 hb3 hg3))
        go_upto_region 9 with (at_builtin; go_loud (refine wpList_append_strs rfl _ _ rfl w.heap.size (.slice A3 0 c3) [] [s.data.toList] (some ⟨w3.heap.size, 0, none⟩) 0 1 1 rfl rfl rfl (HO3.out.alloc _) rfl (one_at w3 s) (by simp only [List.length_cons, List.length_nil]; omega) (by rw [World.size_alloc]; have := HB3.out.size; omega) ?_; intro v4 w4 hown4 hg4; have hb4 := HB3.out.trans (((Below.refl _ _).alloc HB3.out.size _).trans (below_grow (HO3.out.alloc _) hg4 (by rw [World.size_alloc]; have := HB3.out.size; omega))); obtain ⟨A4, c4, hv4, _, _⟩ := ownsRow_slice hown4; subst hv4; have HO4 := Lib.hid hown4; have HB4 := Lib.hid hb4; clear hown4 hb4 hg4))
        go_upto_region 10 with (at_builtin; go_loud (refine wpList_append_strs rfl _ _ rfl w.heap.size (.slice A4 1 c4) [s.data.toList] [] _ 1 0 _ rfl rfl rfl HO4.out rfl (StrsAt.nil _ _) (by simp only [List.length_cons, List.length_nil]; omega) HB4.out.size ?_; intro v5 w5 hown5 hg5; have hb5 := HB4.out.trans (below_grow HO4.out hg5 HB4.out.size); rw [List.append_nil] at hown5; obtain ⟨A5, c5, hv5, hst5, hc5, hcm5⟩ := strsT_own hown5 rfl; subst hv5; have HST5 := Lib.hid hst5; have HB5 := Lib.hid hb5; have HC5 := Lib.hid hc5; clear hown5 hb5 hg5 hc5))
        go_wp2_with fail
        go_ret
        exact ⟨A5, c5, rfl, HST5.out.at_, HC5.out, hcm5, HB5.out⟩
    | some ad =>
      by_cases hc0 : c = 0
      · subst hc0
        go_upto_region 8 with (at_builtin; go_loud (refine wpList_append_strs rfl _ _ rfl w.heap.size (.slice none 0 0) [] [] _ 0 0 _ rfl rfl rfl (World.ownsRow_nil _ _ _ _) rfl (StrsAt.nil _ _) (by decide) (Nat.le_refl _) ?_; intro v3 w3 hown3 hg3; have hb3 := below_grow (World.ownsRow_nil _ _ _ _) hg3 (Nat.le_refl _); rw [List.nil_append] at hown3; obtain ⟨A3, c3, hv3, _, _⟩ := ownsRow_slice hown3; subst hv3; have HO3 := Lib.hid hown3; have HB3 := Lib.hid hb3; clear hown3 hb3 hg3))
        go_upto_region 9 with (at_builtin; go_loud (refine wpList_append_strs rfl _ _ rfl w.heap.size (.slice A3 0 c3) [] [s.data.toList] (some ⟨w3.heap.size, 0, none⟩) 0 1 1 rfl rfl rfl (HO3.out.alloc _) rfl (one_at w3 s) (by simp only [List.length_cons, List.length_nil]; omega) (by rw [World.size_alloc]; have := HB3.out.size; omega) ?_; intro v4 w4 hown4 hg4; have hb4 := HB3.out.trans (((Below.refl _ _).alloc HB3.out.size _).trans (below_grow (HO3.out.alloc _) hg4 (by rw [World.size_alloc]; have := HB3.out.size; omega))); obtain ⟨A4, c4, hv4, _, _⟩ := ownsRow_slice hown4; subst hv4; have HO4 := Lib.hid hown4; have HB4 := Lib.hid hb4; clear hown4 hb4 hg4))
        go_upto_region 10 with (at_builtin; go_loud (refine wpList_append_strs rfl _ _ rfl w.heap.size (.slice A4 1 c4) [s.data.toList] [] _ 1 0 _ rfl rfl rfl HO4.out rfl (StrsAt.nil _ _) (by simp only [List.length_cons, List.length_nil]; omega) HB4.out.size ?_; intro v5 w5 hown5 hg5; have hb5 := HB4.out.trans (below_grow HO4.out hg5 HB4.out.size); rw [List.append_nil] at hown5; obtain ⟨A5, c5, hv5, hst5, hc5, hcm5⟩ := strsT_own hown5 rfl; subst hv5; have HST5 := Lib.hid hst5; have HB5 := Lib.hid hb5; have HC5 := Lib.hid hc5; clear hown5 hb5 hg5 hc5))
        go_wp2_with fail
        go_ret
        exact ⟨A5, c5, rfl, HST5.out.at_, HC5.out, hcm5, HB5.out⟩
      · have e5 : c ≠ 0 := hc0
        have e6 : 0 < c := by omega
        go_upto_region 8 with (at_builtin; go_loud (refine wpList_append_strs rfl _ _ rfl w.heap.size (.slice none 0 0) [] [] _ 0 0 _ rfl rfl rfl (World.ownsRow_nil _ _ _ _) rfl (StrsAt.nil _ _) (by decide) (Nat.le_refl _) ?_; intro v3 w3 hown3 hg3; have hb3 := below_grow (World.ownsRow_nil _ _ _ _) hg3 (Nat.le_refl _); rw [List.nil_append] at hown3; obtain ⟨A3, c3, hv3, _, _⟩ := ownsRow_slice hown3; subst hv3; have HO3 := Lib.hid hown3; have HB3 := Lib.hid hb3; clear hown3 hb3 hg3))
        go_upto_region 9 with (at_builtin; go_loud (refine wpList_append_strs rfl _ _ rfl w.heap.size (.slice A3 0 c3) [] [s.data.toList] (some ⟨w3.heap.size, 0, none⟩) 0 1 1 rfl rfl rfl (HO3.out.alloc _) rfl (one_at w3 s) (by simp only [List.length_cons, List.length_nil]; omega) (by rw [World.size_alloc]; have := HB3.out.size; omega) ?_; intro v4 w4 hown4 hg4; have hb4 := HB3.out.trans (((Below.refl _ _).alloc HB3.out.size _).trans (below_grow (HO3.out.alloc _) hg4 (by rw [World.size_alloc]; have := HB3.out.size; omega))); obtain ⟨A4, c4, hv4, _, _⟩ := ownsRow_slice hown4; subst hv4; have HO4 := Lib.hid hown4; have HB4 := Lib.hid hb4; clear hown4 hb4 hg4))
        go_upto_region 10 with (at_builtin; go_loud (refine wpList_append_strs rfl _ _ rfl w.heap.size (.slice A4 1 c4) [s.data.toList] [] _ 1 0 _ rfl rfl rfl HO4.out rfl (StrsAt.nil _ _) (by simp only [List.length_cons, List.length_nil]; omega) HB4.out.size ?_; intro v5 w5 hown5 hg5; have hb5 := HB4.out.trans (below_grow HO4.out hg5 HB4.out.size); rw [List.append_nil] at hown5; obtain ⟨A5, c5, hv5, hst5, hc5, hcm5⟩ := strsT_own hown5 rfl; subst hv5; have HST5 := Lib.hid hst5; have HB5 := Lib.hid hb5; have HC5 := Lib.hid hc5; clear hown5 hb5 hg5 hc5))
        go_wp2_with fail
        go_ret
        exact ⟨A5, c5, rfl, HST5.out.at_, HC5.out, hcm5, HB5.out⟩
theorem refadd_gen (l : List Bs) (A : Option Addr) (c : Nat) (s : ByteArray) (w : World) (h : StrsAt w A l) (hc : l.length ≤ c) (hcm : c ≤ maxLen) (hl : l.length ≤ 1000000000000) :
    Calls Tryz.prog 34 #[.slice A l.length c, .string s] w (TxPost (addS l s.data.toList) w) := by
  cases l with
  | nil => exact refadd_none A c s w hcm
  | cons x r => exact refadd_any (x :: r) A c s w h hc hcm hl (fun e => by simp at e)
end Go.Proofs.YtkihgbggndikpaaGreatDoor
namespace Go.Proofs.YtkihgbggndikpaaGreatDoor
open Go Go.RowKit Go.Shelf Go.Proofs
attribute [local go_sem] Oper.semAt_some

/-- What the directory's file holds. -/
theorem refget3_any (l : List FX) (A : Option Addr) (c : Nat) (s : ByteArray) (w : World) (h : TreeAt w A c l) (hs : SmallX l) (n : Nat) (hn : ∀ x ∈ l, x.b.length ≤ n) :
    Calls Tryz.prog 32 #[.slice A l.length c, .string s] w fun e w' => ∃ A2 c2 b f, e = .returned (.tuple #[.slice A2 (List.length b) c2, .bool f]) ∧ BytesAt w' A2 b ∧ b.length ≤ n ∧ (getT (flsX l) s.data.toList).getD [] = b ∧ Below w.heap.size w w' := by
  refine (refget_any l A c s w h hs.1).mono ?_
  rintro e w' (⟨h1, rfl, hbl⟩ | ⟨x, hx, h1, rfl, hbl⟩)
  · exact ⟨none, 0, [], false, rfl, BytesAt.nil _ _, Nat.zero_le _, by rw [h1]; rfl, hbl⟩
  · exact ⟨x.A, x.c, x.b, true, rfl, (h.files x hx).below hbl, hn x hx, by rw [h1]; rfl, hbl⟩
/-- A file put: its bytes are fresh ones. -/
theorem refputN_any (l : List FX) (A : Option Addr) (c : Nat) (P B : ByteArray) (w W : World) (h : TreeAt w A c l) (hs : SmallX l) (hl : l.length ≤ 90000) (hP : P.size ≤ 1000000) (hB : B.size ≤ 1000000) (hW : W = (w.alloc (rowB w B)).drew) :
    Calls Tryz.prog 28 #[.slice A l.length c, .agg #[.string P, .slice (some ⟨w.heap.size, 0, none⟩) B.size (capB w B)]] W fun e w' => ∃ A' c' l', e = .returned (.slice A' (List.length l') c') ∧ TreeAt w' A' c' l' ∧ SmallX l' ∧ flsX l' = putT (flsX l) (P.data.toList, B.data.toList) ∧ l'.length ≤ l.length + 1 ∧ Below w.heap.size w w' := by
  have hb0 : Below w.heap.size w W := by rw [hW]; exact Below.drew ((Below.refl _ w).alloc (Nat.le_refl _) _)
  have hrow : W.heap[w.heap.size]? = some (rowB w B) := by rw [hW]; exact heap_alloc_new w (rowB w B)
  have hbl : B.data.toList.length = B.size := Array.length_toList
  have hat : BytesAt W (some ⟨w.heap.size, 0, none⟩) B.data.toList := by
    intro _
    refine ⟨w.heap.size, 0, rfl, fun i hi => ?_⟩
    have hi : i < B.data.toList.length := hi
    have hi' : i < B.data.size := by show i < B.size; omega
    rw [Nat.zero_add, cell_of_row _ w.heap.size i _ _ _ (show _ = some (Obj.cells (bytesRow B (capB w B)) 5 ((bytesRow B (capB w B)).size, (bytesRow B (capB w B)).size + 1)) from hrow), bytesRow_at B (capB w B) i hi']
    unfold numsB
    rw [List.getD_eq_getElem?_getD, List.getElem?_map, List.getElem?_eq_getElem hi]
    rfl
  have HP := refput_any l A c ⟨P, some ⟨w.heap.size, 0, none⟩, capB w B, B.data.toList⟩ W (h.below hb0) hl
  simp only [hbl] at HP
  refine HP.mono ?_
  rintro e w' ⟨v', rfl, hown, hb⟩
  obtain ⟨A', c', rfl⟩ := hown.slice
  have hsub : ∀ x ∈ putX l ⟨P, some ⟨w.heap.size, 0, none⟩, capB w B, B.data.toList⟩, x = ⟨P, some ⟨w.heap.size, 0, none⟩, capB w B, B.data.toList⟩ ∨ x ∈ l := fun x hx => putX_sub x hx
  have hlen := putX_le l ⟨P, some ⟨w.heap.size, 0, none⟩, capB w B, B.data.toList⟩
  refine ⟨A', c', putX l ⟨P, some ⟨w.heap.size, 0, none⟩, capB w B, B.data.toList⟩, rfl, (hown.tree fun x hx => ?_).2, ⟨by omega, fun x hx => ?_⟩, putX_fls l _, hlen, hb0.trans (hb.mono hb0.size)⟩
  · rcases hsub x hx with rfl | hx
    · exact hat.below hb
    · exact ((h.files x hx).below hb0).below hb
  · rcases hsub x hx with rfl | hx
    · exact ⟨hP, by show B.data.toList.length ≤ _; omega⟩
    · exact hs.2 x hx

theorem ofT_len2 (t : List Fl) (s : Bs) (hs : s.length ≤ 100) : (ofT t s).2.length ≤ 1000000000000 := by
  unfold ofT
  split
  · have h1 := ofStep_len t (dirL s) (baseL s) (ups (dirL s)) []
    have h2 := ups_len (dirL s).length (dirL s) (Nat.le_refl _)
    have h3 : (dirL s).length ≤ s.length := by
      by_cases e : s = []
      · subst e; simp [dirL]
      · exact Nat.le_of_lt (dir_shorter e)
    simp only [List.length_nil] at h1
    omega
  · simp

set_option maxRecDepth 100000 in
set_option maxHeartbeats 16000000 in
theorem omore_any (l : List FX) (A : Option Addr) (c : Nat) (dir name s : ByteArray) (w : World) (h : TreeAt w A c l) (hbig : BigX l) (hd : dir.size ≤ 1000000000000000) (hn : name.size ≤ 1000000000000000) (hs : s.size ≤ 1000000000000000) (hm : MaxOk w) (hT : TabsOk w) :
    Calls Tryz.prog 8 #[.slice A l.length c, .string dir, .string name, .string s] w (BoolPost true w) := by
  have HK := Lib.hid (fun (W : World) (hb : Below w.heap.size w W) => oknown_any W (hm.below hb) (hT.below (Nat.le_refl _) hb))
  by_cases h1 : 30 < l.length
  · have g1 : (30 : Int) < (l.length : Int) := by omega
    clear h hm hT hbig
    go_enter Tryz.func8, Tryz.ntmps8
    have HKN := Lib.hid (HK.out w (Below.refl w.heap.size w))
    go_wp2_with fail
    refine HKN.out.mono ?_
    rintro e w9 ⟨rfl, hb9⟩
    go_wp2_with fail
    go_ret
    exact ⟨rfl, (Below.refl w.heap.size w).trans (hb9.mono (Below.refl w.heap.size w).size)⟩
  · have g1 : ¬ (30 : Int) < (l.length : Int) := by omega
    have HL := Lib.hid (reflong_any l A c w h (by omega) hbig)
    go_enter Tryz.func8, Tryz.ntmps8
    by_cases h2 : 2000 < longN l
    · have g2 : (2000 : Int) < (longN l : Int) := by omega
      clear h hm hT hbig
      go_wp2_with fail
      refine HL.out.mono ?_
      rintro e w1 ⟨rfl, hb1⟩
      have HB1 := Lib.hid hb1
      clear hb1
      have HKN := Lib.hid (HK.out w1 (HB1.out))
      go_wp2_with fail
      refine HKN.out.mono ?_
      rintro e w9 ⟨rfl, hb9⟩
      go_wp2_with fail
      go_ret
      exact ⟨rfl, (HB1.out).trans (hb9.mono (HB1.out).size)⟩
    · have g2 : ¬ (2000 : Int) < (longN l : Int) := by omega
      have hti : TinyX l := smallL_tiny (by unfold smallL; rw [decide_eq_true (by omega), decide_eq_true (by omega)]; rfl)
      have HSM := Lib.hid hti.small
      have HTR := Lib.hid (fun (W : World) (hb : Below w.heap.size w W) => h.below hb)
      have HOF := Lib.hid (fun (l : List FX) (A : Option Addr) (c : Nat) (W : World) (hb : Below w.heap.size w W) (h : TreeAt W A c l) (hsm : SmallX l) (h2 : s.size ≤ 1000000) => of_all l A c s W h hsm h2 (hm.below hb) (hT.below (Nat.le_refl _) hb))
      have HEACH : Hid (∀ x ∈ l, x.b.length ≤ 3000) := fun x hx => by have := hti.each x hx; omega
      clear h hm hT hbig hti
      by_cases h3 : 100 < s.size
      · have g3 : (100 : Int) < (s.size : Int) := by omega
        go_wp2_with fail
        refine HL.out.mono ?_
        rintro e w1 ⟨rfl, hb1⟩
        have HB1 := Lib.hid hb1
        clear hb1
        have HKN := Lib.hid (HK.out w1 (HB1.out))
        go_wp2_with fail
        refine HKN.out.mono ?_
        rintro e w9 ⟨rfl, hb9⟩
        go_wp2_with fail
        go_ret
        exact ⟨rfl, (HB1.out).trans (hb9.mono (HB1.out).size)⟩
      · have g3 : ¬ (100 : Int) < (s.size : Int) := by omega
        by_cases h4 : 60 < dir.size
        · have g4 : (60 : Int) < (dir.size : Int) := by omega
          go_wp2_with fail
          refine HL.out.mono ?_
          rintro e w1 ⟨rfl, hb1⟩
          have HB1 := Lib.hid hb1
          clear hb1
          have HKN := Lib.hid (HK.out w1 (HB1.out))
          go_wp2_with fail
          refine HKN.out.mono ?_
          rintro e w9 ⟨rfl, hb9⟩
          go_wp2_with fail
          go_ret
          exact ⟨rfl, (HB1.out).trans (hb9.mono (HB1.out).size)⟩
        · have g4 : ¬ (60 : Int) < (dir.size : Int) := by omega
          go_wp2_with fail
          refine HL.out.mono ?_
          rintro e w1 ⟨rfl, hb1⟩
          have HB1 := Lib.hid hb1
          clear hb1 HL
          have HC := Lib.hid (named_any name w1 (by unfold maxLen; omega))
          go_wp2_with fail
          refine HC.out.mono ?_
          rintro e w' ⟨rfl, hw⟩
          have hw := hw.symm
          subst hw
          clear HC
          cases h5 : namedB name.data.toList with
          | false =>
            have H5 := Lib.hid h5
            clear h5
            have HKN := Lib.hid (HK.out w1 (HB1.out))
            go_wp2_with fail
            refine HKN.out.mono ?_
            rintro e w9 ⟨rfl, hb9⟩
            go_wp2_with fail
            go_ret
            exact ⟨rfl, (HB1.out).trans (hb9.mono (HB1.out).size)⟩
          | true =>
            have H5 := Lib.hid h5
            clear h5
            have HO1 := HOF.out l A c w1 HB1.out (HTR.out w1 HB1.out) HSM.out (by omega)
            obtain ⟨r, hr⟩ : ∃ r, ofT (flsX l) s.data.toList = r := ⟨_, rfl⟩
            rw [hr] at HO1
            obtain ⟨r1, r2⟩ := r
            have HR := Lib.hid hr
            unfold TextsPost at HO1
            simp only at HO1
            have HO := Lib.hid HO1
            clear HO1 hr
            go_wp2_with fail
            refine HO.out.mono ?_
            rintro e w2 ⟨A2, c2, rfl, hs2, hc2, hm2, hb2⟩
            have HB2 := Lib.hid (HB1.out.trans (hb2.mono HB1.out.size))
            have HS2 := Lib.hid hs2
            clear hs2 hb2 HO
            have HJ := Lib.hid (refjoin_any dir ⟨#[79, 87, 78, 69, 82, 83]⟩ w2 (by omega) (by decide))
            obtain ⟨P, hP⟩ : ∃ P, mkB (join2 dir.data.toList (ByteArray.mk #[79, 87, 78, 69, 82, 83]).data.toList) = P := ⟨_, rfl⟩
            rw [hP] at HJ
            have HPD : Hid (P.data.toList = join2 dir.data.toList ownW) := by unfold Hid; rw [← hP, mkB_data]; rfl
            have hpz : P.size ≤ 200 := by
              rw [← hP, mkB_size, show (ByteArray.mk #[79, 87, 78, 69, 82, 83]).data.toList = ownW from rfl]
              by_cases e0 : dir.data.toList = []
              · rw [e0]; decide
              · rw [join_len e0]
                have : dir.data.toList.length = dir.size := Array.length_toList
                omega
            clear hP
            go_wp2_with fail
            refine HJ.out.mono ?_
            rintro e w' ⟨rfl, hw⟩
            have hw := hw.symm
            subst hw
            clear HJ
            have HG := Lib.hid (refget3_any l A c P w2 (HTR.out w2 HB2.out) HSM.out 3000 HEACH.out)
            go_wp2_with fail
            refine HG.out.mono ?_
            rintro e w3 ⟨A3, c3, b, f, rfl, hbo, hbl, hgt, hb3⟩
            have HB3 := Lib.hid (HB2.out.trans (hb3.mono HB2.out.size))
            have HS3 := Lib.hid (HS2.out.below hb3)
            have HGT := Lib.hid hgt
            have hcv := run_str w3 A3 c3 b hbo
            obtain ⟨M, hM⟩ : ∃ M, mkB b = M := ⟨_, rfl⟩
            have hmz : M.size ≤ 3000 := by rw [← hM, mkB_size]; exact hbl
            have HM : Hid (M.data.toList = b) := by unfold Hid; rw [← hM, mkB_data]
            have hnz : name.size ≤ 20 := by
              have := H5.out; unfold namedB at this; simp only [Bool.and_eq_true, decide_eq_true_eq] at this
              have h2 := this.1.2
              rw [Array.length_toList] at h2; exact h2
            rw [hM] at hcv
            clear hbo hb3 hgt HG hbl hM
            have hcv2 := conv_bytes w3 (M ++ ⟨#[10]⟩ ++ name ++ ⟨#[10]⟩)
            go_wp2_with fail
            clear hcv hcv2
            obtain ⟨BL, hBL⟩ : ∃ x, (M ++ ⟨#[10]⟩ ++ name ++ ⟨#[10]⟩ : ByteArray) = x := ⟨_, rfl⟩
            have hbl : BL.data.toList = b ++ 10 :: (name.data.toList ++ [10]) := by rw [← hBL, ← HM.out]; simp
            have hbz : M.size + 1 + name.size + 1 = BL.size := by rw [← hBL]; simp only [ByteArray.size_append]; rfl
            rw [hBL, hbz]
            obtain ⟨W4, hW4⟩ : ∃ W4, (w3.alloc (rowB w3 BL)).drew = W4 := ⟨_, rfl⟩
            rw [hW4]
            refine (refputN_any l A c P BL w3 W4 (HTR.out w3 HB3.out) HSM.out (by omega) (by omega) (by omega) hW4.symm).mono ?_
            rintro e w5 ⟨A5, c5, l5, rfl, ht5, hs5, hf5, hl5, hb5⟩
            have HB5 := Lib.hid (HB3.out.trans (hb5.mono HB3.out.size))
            have HS5 := Lib.hid (HS3.out.below hb5)
            have hmore : MoreT (flsX l) (flsX l5) dir.data.toList name.data.toList := by
              rw [hf5, hbl, ← HGT.out, HPD.out]; exact more_put _ _ _ H5.out
            have hlaw := ofT_more hmore s.data.toList
            have hO5 := HOF.out l5 A5 c5 w5 HB5.out ht5 hs5 (by omega)
            obtain ⟨q, hq⟩ : ∃ q, ofT (flsX l5) s.data.toList = q := ⟨_, rfl⟩
            have hqn := ofT_len (flsX l5) s.data.toList (by rw [Array.length_toList]; show s.size ≤ 1000; omega)
            have hrn := ofT_len2 (flsX l) s.data.toList (by rw [Array.length_toList]; show s.size ≤ 100; omega)
            rw [hq] at hO5 hlaw hqn
            rw [HR.out] at hlaw hrn
            obtain ⟨q1, q2⟩ := q
            unfold TextsPost at hO5
            simp only at hO5 hlaw hqn hrn
            have HO5 := Lib.hid hO5
            have HLAW := Lib.hid hlaw
            clear hO5 hlaw hq hmore ht5 hf5 hb5 hW4 hbl hbz hBL hs5 HTR HSM HEACH
            go_wp2_with fail
            refine HO5.out.mono ?_
            rintro e w6 ⟨A6, c6, rfl, hs6, hc6, hm6, hb6⟩
            have HB6 := Lib.hid (HB5.out.trans (hb6.mono HB5.out.size))
            have HS6 := Lib.hid (HS5.out.below hb6)
            have HQ6 := Lib.hid hs6
            clear hs6 hb6 HO5 HOF HGT HPD HM
            by_cases he : r1 = 0
            · obtain rfl := he
              by_cases hf : q1 = 0
              · obtain rfl := hf
                have hlaw2 := HLAW.out rfl rfl
                have HLAW2 := Lib.hid hlaw2
                clear hlaw2
                go_wp2_with fail
                refine (refright_any s w6 (by omega)).mono ?_
                rintro e w7 ⟨rfl, hb7⟩
                have HB7 := Lib.hid (HB6.out.trans (hb7.mono HB6.out.size))
                have HS7 := Lib.hid (HS6.out.below hb7)
                have HQ7 := Lib.hid (HQ6.out.below hb7)
                clear hb7
                cases hr : rightB s.data.toList with
                | false =>
                  have HKN := Lib.hid (HK.out w7 (HB7.out))
                  go_wp2_with fail
                  refine HKN.out.mono ?_
                  rintro e w9 ⟨rfl, hb9⟩
                  go_wp2_with fail
                  go_ret
                  exact ⟨rfl, (HB7.out).trans (hb9.mono (HB7.out).size)⟩
                | true =>
                  clear hr
                  by_cases h5 : dir.toList = []
                  · have g5 : dir.toList.isEmpty = true := by simp [h5]
                    clear h5
                    go_wp2_with fail
                    refine (refunderL_any s dir w7 (by omega) (by omega)).mono ?_
                    rintro e w' ⟨rfl, hw⟩
                    have hw := hw.symm
                    subst hw
                    cases hu : underL s.data.toList dir.data.toList with
                    | false =>
                      have hqr := HLAW2.out.1 hu
                      have HST := Lib.hid (sametexts_any r2 q2 A2 A6 c2 c6 w7 HS7.out HQ7.out (by omega) hqn)
                      rw [decide_eq_true hqr.symm] at HST
                      clear hu hqr
                      go_wp2_with fail
                      refine HST.out.mono ?_
                      rintro e w9 ⟨rfl, hb9⟩
                      have HB9 := Lib.hid (HB7.out.trans (hb9.mono HB7.out.size))
                      clear hb9
                      have HKN := Lib.hid (HK.out w9 (HB9.out))
                      go_wp2_with fail
                      refine HKN.out.mono ?_
                      rintro e w10 ⟨rfl, hb10⟩
                      go_wp2_with fail
                      go_ret
                      exact ⟨rfl, (HB9.out).trans (hb10.mono (HB9.out).size)⟩
                    | true =>
                      clear hu
                      have HAD := Lib.hid (refadd_gen r2 A2 c2 name w7 HS7.out hc2 hm2 hrn)
                      go_wp2_with fail
                      refine HAD.out.mono ?_
                      rintro e w9 ⟨A9, c9, rfl, hs9, hc9, hm9, hb9⟩
                      have HB9 := Lib.hid (HB7.out.trans (hb9.mono HB7.out.size))
                      have HS9 := Lib.hid (HS7.out.below hb9)
                      have HQ9 := Lib.hid (HQ7.out.below hb9)
                      have hal := addS_len name.data.toList r2
                      have HST := Lib.hid (sametexts_any q2 (addS r2 name.data.toList) A6 A9 c6 c9 w9 HQ9.out hs9 hqn (by omega))
                      obtain ⟨X, hX⟩ : ∃ X, addS r2 name.data.toList = X := ⟨_, rfl⟩
                      have HLW := HLAW2.out.2
                      rw [hX] at HST HLW hal ⊢
                      have HLW := Lib.hid HLW
                      clear hb9 hs9 hX HAD
                      by_cases hqx : q2 = X
                      · rw [decide_eq_true hqx] at HST
                        clear hqx
                        go_wp2_with fail
                        refine HST.out.mono ?_
                        rintro e w10 ⟨rfl, hb10⟩
                        have HB10 := Lib.hid (HB9.out.trans (hb10.mono HB9.out.size))
                        clear hb10
                        have HKN := Lib.hid (HK.out w10 (HB10.out))
                        go_wp2_with fail
                        refine HKN.out.mono ?_
                        rintro e w11 ⟨rfl, hb11⟩
                        go_wp2_with fail
                        go_ret
                        exact ⟨rfl, (HB10.out).trans (hb11.mono (HB10.out).size)⟩
                      · rw [decide_eq_false hqx] at HST
                        have HQR := Lib.hid (HLW.out.resolve_left hqx)
                        clear hqx
                        go_wp2_with fail
                        refine HST.out.mono ?_
                        rintro e w10 ⟨rfl, hb10⟩
                        have HB10 := Lib.hid (HB9.out.trans (hb10.mono HB9.out.size))
                        have HST2 := Lib.hid (sametexts_any q2 r2 A6 A2 c6 c2 w10 (HQ9.out.below hb10) (HS9.out.below hb10) hqn (by omega))
                        rw [decide_eq_true HQR.out] at HST2
                        clear hb10 HQR
                        go_wp2_with fail
                        refine HST2.out.mono ?_
                        rintro e w11 ⟨rfl, hb11⟩
                        have HB11 := Lib.hid (HB10.out.trans (hb11.mono HB10.out.size))
                        clear hb11
                        have HKN := Lib.hid (HK.out w11 (HB11.out))
                        go_wp2_with fail
                        refine HKN.out.mono ?_
                        rintro e w12 ⟨rfl, hb12⟩
                        go_wp2_with fail
                        go_ret
                        exact ⟨rfl, (HB11.out).trans (hb12.mono (HB11.out).size)⟩
                  · have g5 : dir.toList.isEmpty = false := by simpa using h5
                    clear h5
                    go_wp2_with fail
                    refine (refright_any dir w7 (by omega)).mono ?_
                    rintro e w8 ⟨rfl, hb8⟩
                    have HB8 := Lib.hid (HB7.out.trans (hb8.mono HB7.out.size))
                    have HS8 := Lib.hid (HS7.out.below hb8)
                    have HQ8 := Lib.hid (HQ7.out.below hb8)
                    clear hb8
                    cases hrd : rightB dir.data.toList with
                    | false =>
                      have HKN := Lib.hid (HK.out w8 (HB8.out))
                      go_wp2_with fail
                      refine HKN.out.mono ?_
                      rintro e w9 ⟨rfl, hb9⟩
                      go_wp2_with fail
                      go_ret
                      exact ⟨rfl, (HB8.out).trans (hb9.mono (HB8.out).size)⟩
                    | true =>
                      clear hrd
                      go_wp2_with fail
                      refine (refunderL_any s dir w8 (by omega) (by omega)).mono ?_
                      rintro e w' ⟨rfl, hw⟩
                      have hw := hw.symm
                      subst hw
                      cases hu : underL s.data.toList dir.data.toList with
                      | false =>
                        have hqr := HLAW2.out.1 hu
                        have HST := Lib.hid (sametexts_any r2 q2 A2 A6 c2 c6 w8 HS8.out HQ8.out (by omega) hqn)
                        rw [decide_eq_true hqr.symm] at HST
                        clear hu hqr
                        go_wp2_with fail
                        refine HST.out.mono ?_
                        rintro e w9 ⟨rfl, hb9⟩
                        have HB9 := Lib.hid (HB8.out.trans (hb9.mono HB8.out.size))
                        clear hb9
                        have HKN := Lib.hid (HK.out w9 (HB9.out))
                        go_wp2_with fail
                        refine HKN.out.mono ?_
                        rintro e w10 ⟨rfl, hb10⟩
                        go_wp2_with fail
                        go_ret
                        exact ⟨rfl, (HB9.out).trans (hb10.mono (HB9.out).size)⟩
                      | true =>
                        clear hu
                        have HAD := Lib.hid (refadd_gen r2 A2 c2 name w8 HS8.out hc2 hm2 hrn)
                        go_wp2_with fail
                        refine HAD.out.mono ?_
                        rintro e w9 ⟨A9, c9, rfl, hs9, hc9, hm9, hb9⟩
                        have HB9 := Lib.hid (HB8.out.trans (hb9.mono HB8.out.size))
                        have HS9 := Lib.hid (HS8.out.below hb9)
                        have HQ9 := Lib.hid (HQ8.out.below hb9)
                        have hal := addS_len name.data.toList r2
                        have HST := Lib.hid (sametexts_any q2 (addS r2 name.data.toList) A6 A9 c6 c9 w9 HQ9.out hs9 hqn (by omega))
                        obtain ⟨X, hX⟩ : ∃ X, addS r2 name.data.toList = X := ⟨_, rfl⟩
                        have HLW := HLAW2.out.2
                        rw [hX] at HST HLW hal ⊢
                        have HLW := Lib.hid HLW
                        clear hb9 hs9 hX HAD
                        by_cases hqx : q2 = X
                        · rw [decide_eq_true hqx] at HST
                          clear hqx
                          go_wp2_with fail
                          refine HST.out.mono ?_
                          rintro e w10 ⟨rfl, hb10⟩
                          have HB10 := Lib.hid (HB9.out.trans (hb10.mono HB9.out.size))
                          clear hb10
                          have HKN := Lib.hid (HK.out w10 (HB10.out))
                          go_wp2_with fail
                          refine HKN.out.mono ?_
                          rintro e w11 ⟨rfl, hb11⟩
                          go_wp2_with fail
                          go_ret
                          exact ⟨rfl, (HB10.out).trans (hb11.mono (HB10.out).size)⟩
                        · rw [decide_eq_false hqx] at HST
                          have HQR := Lib.hid (HLW.out.resolve_left hqx)
                          clear hqx
                          go_wp2_with fail
                          refine HST.out.mono ?_
                          rintro e w10 ⟨rfl, hb10⟩
                          have HB10 := Lib.hid (HB9.out.trans (hb10.mono HB9.out.size))
                          have HST2 := Lib.hid (sametexts_any q2 r2 A6 A2 c6 c2 w10 (HQ9.out.below hb10) (HS9.out.below hb10) hqn (by omega))
                          rw [decide_eq_true HQR.out] at HST2
                          clear hb10 HQR
                          go_wp2_with fail
                          refine HST2.out.mono ?_
                          rintro e w11 ⟨rfl, hb11⟩
                          have HB11 := Lib.hid (HB10.out.trans (hb11.mono HB10.out.size))
                          clear hb11
                          have HKN := Lib.hid (HK.out w11 (HB11.out))
                          go_wp2_with fail
                          refine HKN.out.mono ?_
                          rintro e w12 ⟨rfl, hb12⟩
                          go_wp2_with fail
                          go_ret
                          exact ⟨rfl, (HB11.out).trans (hb12.mono (HB11.out).size)⟩
              · have e2 : (q1 != 0) = true := by simpa using hf
                have e3 : (q1 = 0) = False := eq_false hf
                have HKN := Lib.hid (HK.out w6 (HB6.out))
                go_wp2_with fail
                refine HKN.out.mono ?_
                rintro e w9 ⟨rfl, hb9⟩
                go_wp2_with fail
                go_ret
                exact ⟨rfl, (HB6.out).trans (hb9.mono (HB6.out).size)⟩
            · have e2 : (r1 != 0) = true := by simpa using he
              have e3 : (r1 = 0) = False := eq_false he
              have HKN := Lib.hid (HK.out w6 (HB6.out))
              go_wp2_with fail
              refine HKN.out.mono ?_
              rintro e w9 ⟨rfl, hb9⟩
              go_wp2_with fail
              go_ret
              exact ⟨rfl, (HB6.out).trans (hb9.mono (HB6.out).size)⟩
end Go.Proofs.YtkihgbggndikpaaGreatDoor
