/-
  Plain functions for layer 9 (build): a tree with a BUILD more. No program is named here.
-/
import Derived.Test.YtlampcelmlejbaaDoorBdAll
namespace Go.Proofs.YtlampcelmlejbaaDoor
open Go

theorem split_bytes (c : UInt8) (p : UInt8 → Prop) : ∀ s : Bs, (∀ q ∈ splitL c s, ∀ x ∈ q, p x) → ∀ x ∈ s, x = c ∨ p x
  | [], _, x, hx => by cases hx
  | b :: r, h, x, hx => by
    by_cases hb : (b == c) = true
    · rw [splitT_hit c b r hb] at h
      rcases List.mem_cons.1 hx with rfl | hx
      · exact .inl (by simpa using hb)
      · exact split_bytes c p r (fun q hq => h q (by simp [hq])) x hx
    · have hb : (b == c) = false := by simpa using hb
      cases e : splitL c r with
      | nil => exact absurd e (splitL_ne c r)
      | cons q qs =>
        rw [splitT_miss c b r q qs hb e] at h
        rcases List.mem_cons.1 hx with rfl | hx
        · exact .inr (h (x :: q) (by simp) x (by simp))
        · refine split_bytes c p r (fun q' hq y hy => ?_) x hx
          rw [e] at hq
          rcases List.mem_cons.1 hq with rfl | hq
          · exact h (b :: q') (by simp) y (by simp [hy])
          · exact h q' (by simp [hq]) y hy
theorem right_plain {d : Bs} (h : rightB d = true) : ∀ x ∈ d, x ≠ 58 := by
  unfold rightB partsB at h
  rw [Bool.and_eq_true] at h
  intro x hx
  rcases split_bytes 47 (fun x => x ≠ 58) d (fun q hq y hy => by
    have h1 := List.all_eq_true.1 h.2 q hq
    unfold nameB speltB at h1
    simp only [Bool.and_eq_true] at h1
    have h2 := List.all_eq_true.1 h1.2 y hy
    rintro rfl
    revert h2; decide) x hx with h1 | h1
  · rw [h1]; decide
  · exact h1
theorem named_plainT {n : Bs} (h : namedT n = true) (c : UInt8) (hc : plainT c = false) : ∀ x ∈ n, (x == c) = false := fun x hx => by
  unfold namedT at h
  simp only [Bool.and_eq_true] at h
  have := List.all_eq_true.1 h.2 x hx
  rw [beq_eq_false_iff_ne]
  rintro rfl
  rw [hc] at this; cases this
theorem named_neT {n : Bs} (h : namedT n = true) : n.isEmpty = false := by
  unfold namedT at h
  cases n with
  | nil => simp at h
  | cons _ _ => rfl
theorem front_id (p : UInt8 → Bool) : ∀ a : Bs, (∀ x ∈ a, p x = true) → a.takeWhile p = a
  | [], _ => rfl
  | x :: r, h => by rw [List.takeWhile_cons, if_pos (h x (by simp)), front_id p r (fun y hy => h y (by simp [hy]))]
theorem front_colon (a b : Bs) (h : ∀ x ∈ a, x ≠ 58) : (a ++ 58 :: b).takeWhile (fun c => c != 58) = a := by
  induction a with
  | nil => rfl
  | cons x r ih =>
    have := h x (by simp)
    rw [List.cons_append, List.takeWhile_cons, if_pos (by simpa using this), ih (fun y hy => h y (by simp [hy]))]
/-- A label has one directory alone. -/
theorem label_dir {a b m n : Bs} (ha : ∀ x ∈ a, x ≠ 58) (hb : ∀ x ∈ b, x ≠ 58) (h : a ++ 58 :: m = b ++ 58 :: n) : a = b := by
  have := congrArg (List.takeWhile (fun c => c != 58)) h
  rwa [front_colon a m ha, front_colon b n hb] at this
theorem parse_dir {dir s : Bs} (h : (parseB dir s).1 = 0) : (∀ x ∈ dir, x ≠ 58) ∧ ∀ x ∈ (parseB dir s).2, ∃ n, x.n = dir ++ 58 :: n := by
  refine ⟨?_, fun x hx => ?_⟩
  · unfold parseB at h
    by_cases a1 : (!dir.isEmpty && !rightB dir) = true
    · rw [if_pos a1] at h; cases h
    · cases dir with
      | nil => intro x hx; cases hx
      | cons b r => exact right_plain (by simpa using a1)
  · obtain ⟨i, hi, rfl⟩ := List.mem_iff_getElem.1 hx
    have := (parse_twins dir dir s h h).at_ i _ _ (List.getElem?_eq_getElem hi) (List.getElem?_eq_getElem hi)
    obtain ⟨⟨n, h1, _⟩, _⟩ := this
    exact ⟨n, h1⟩

theorem gather_more : ∀ (t : List Fl) (a : List Tg), gatherT t (.ok a) = (gatherT t (.ok [])).map (a ++ ·)
  | [], a => by show Except.ok a = Except.ok (a ++ []); rw [List.append_nil]
  | f :: t, a => by
    rw [gatherT_cons, gatherT_cons]
    show gatherT t (if isBd f.1 then (bodyT f).map (a ++ ·) else .ok a) = (gatherT t (if isBd f.1 then (bodyT f).map ([] ++ ·) else .ok [])).map (a ++ ·)
    cases isBd f.1 with
    | false => exact gather_more t a
    | true =>
      simp only [if_true]
      cases bodyT f with
      | error e =>
        show gatherT t (.error e) = (gatherT t (.error e)).map (a ++ ·)
        rw [gatherT_err]; rfl
      | ok m =>
        show gatherT t (.ok (a ++ m)) = (gatherT t (.ok ([] ++ m))).map (a ++ ·)
        rw [gather_more t (a ++ m), List.nil_append, gather_more t m]
        cases gatherT t (.ok []) with
        | error e => rfl
        | ok k => show Except.ok (a ++ m ++ k) = Except.ok (a ++ (m ++ k)); rw [List.append_assoc]
/-- Each target of a tree is of a BUILD of it. -/
theorem gather_from : ∀ (t : List Fl) (l : List Tg), gatherT t (.ok []) = .ok l → ∀ x ∈ l, ∃ f ∈ t, isBd f.1 = true ∧ (∀ y ∈ dirL f.1, y ≠ 58) ∧ ∃ n, x.n = dirL f.1 ++ 58 :: n
  | [], l, h, x, hx => by cases h; cases hx
  | f :: t, l, h, x, hx => by
    rw [gatherT_cons] at h
    have h : gatherT t (if isBd f.1 then (bodyT f).map ([] ++ ·) else .ok []) = .ok l := h
    cases hb : isBd f.1 with
    | false =>
      rw [hb] at h
      obtain ⟨g, hg, h1⟩ := gather_from t l h x hx
      exact ⟨g, by simp [hg], h1⟩
    | true =>
      rw [hb, if_pos rfl] at h
      unfold bodyT at h
      by_cases h0 : (parseB (dirL f.1) f.2).1 = 0
      · rw [if_pos h0] at h
        have h : gatherT t (.ok ([] ++ (parseB (dirL f.1) f.2).2)) = .ok l := h
        rw [List.nil_append, gather_more] at h
        cases e : gatherT t (.ok []) with
        | error n => rw [e] at h; cases h
        | ok k =>
          rw [e] at h
          cases h
          rcases List.mem_append.1 hx with hx | hx
          · obtain ⟨h1, h2⟩ := parse_dir h0
            exact ⟨f, by simp, hb, h1, h2 x hx⟩
          · obtain ⟨g, hg, h1⟩ := gather_from t k e x hx
            exact ⟨g, by simp [hg], h1⟩
      · rw [if_neg h0] at h
        have h : gatherT t (.error _) = .ok l := h
        rw [gatherT_err] at h; cases h

theorem gather_ne : ∀ (t : List Fl), gatherT t (.ok []) ≠ .error 0 := by
  have gen : ∀ (t : List Fl) (a : List Tg), gatherT t (.ok a) ≠ .error 0 := by
    intro t
    induction t with
    | nil => intro a h; cases h
    | cons f t ih =>
      intro a h
      rw [gatherT_cons] at h
      have h : gatherT t (if isBd f.1 then (bodyT f).map (a ++ ·) else .ok a) = .error 0 := h
      cases hb : isBd f.1 with
      | false => rw [hb] at h; exact ih a h
      | true =>
        rw [hb, if_pos rfl] at h
        unfold bodyT at h
        by_cases h0 : (parseB (dirL f.1) f.2).1 = 0
        · rw [if_pos h0] at h; exact ih _ h
        · rw [if_neg h0] at h
          have h : gatherT t (.error (parseB (dirL f.1) f.2).1) = .error 0 := h
          rw [gatherT_err] at h
          exact h0 (Except.error.inj h)
  exact fun t => gen t []
def zzD : Bs := [122, 122]
def zzB : Bs := [122, 122, 47, 66, 85, 73, 76, 68]
theorem zz_only {p : Bs} (h1 : isBd p = true) (h2 : dirL p = zzD) : p = zzB := by
  have hb : baseL p = buildW := by simpa [isBd] using h1
  rcases last_slash p with h | ⟨q, l, rfl, hl⟩
  · rw [dirL_none p h] at h2; cases h2
  · rw [dirL_slash q l hl] at h2
    rw [baseL_slash, baseL_none l hl] at hb
    rw [h2, hb]; rfl
theorem zz_fresh {t : List Fl} {l : List Tg} (h : gatherT t (.ok []) = .ok l) (hz : hasT t zzB = false) (n : Bs) : hasN l (zzD ++ 58 :: n) = false := by
  cases e : hasN l (zzD ++ 58 :: n) with
  | false => rfl
  | true =>
    exfalso
    rw [hasN_iff] at e
    obtain ⟨x, hx, hxn⟩ := List.mem_map.1 e
    obtain ⟨f, hf, h1, h2, m, h3⟩ := gather_from t l h x hx
    have hd : dirL f.1 = zzD := label_dir h2 (by decide) (h3.symm.trans hxn)
    have := zz_only h1 hd
    have h4 := (hasT_iff t zzB).2 ⟨f, hf, this⟩
    rw [hz] at h4; cases h4
def tline (n : Bs) : Bs := tgtW ++ 32 :: n
def dline (n : Bs) : Bs := depW ++ 32 :: 58 :: n
theorem mem_tline {n : Bs} (h : namedT n = true) (c : UInt8) (h1 : plainT c = false) (h2 : c ≠ 32) (h3 : ∀ x ∈ tgtW, (x == c) = false) : ∀ x ∈ tline n, (x == c) = false := fun x hx => by
  unfold tline at hx
  rcases List.mem_append.1 hx with hx | hx
  · exact h3 x hx
  · rcases List.mem_cons.1 hx with rfl | hx
    · exact beq_eq_false_iff_ne.2 (fun e => h2 e.symm)
    · exact named_plainT h c h1 x hx
theorem mem_dline {n : Bs} (h : namedT n = true) (c : UInt8) (h1 : plainT c = false) (h2 : c ≠ 32) (h4 : c ≠ 58) (h3 : ∀ x ∈ depW, (x == c) = false) : ∀ x ∈ dline n, (x == c) = false := fun x hx => by
  unfold dline at hx
  rcases List.mem_append.1 hx with hx | hx
  · exact h3 x hx
  · rcases List.mem_cons.1 hx with rfl | hx
    · exact beq_eq_false_iff_ne.2 (fun e => h2 e.symm)
    · rcases List.mem_cons.1 hx with rfl | hx
      · exact beq_eq_false_iff_ne.2 (fun e => h4 e.symm)
      · exact named_plainT h c h1 x hx
theorem splitT_all (c : UInt8) : ∀ a : Bs, (∀ x ∈ a, (x == c) = false) → splitL c a = [a]
  | [], _ => rfl
  | x :: r, h => splitT_miss c x r _ _ (h x (by simp)) (splitT_all c r (fun y hy => h y (by simp [hy])))
theorem splitT_put (c : UInt8) : ∀ (a b : Bs), (∀ x ∈ a, (x == c) = false) → splitL c (a ++ c :: b) = a :: splitL c b
  | [], b, _ => by rw [List.nil_append, splitT_hit c c b (by simp)]
  | x :: r, b, h => by
    have ih := splitT_put c r b (fun y hy => h y (by simp [hy]))
    rw [List.cons_append]
    exact splitT_miss c x _ _ _ (h x (by simp)) ih
theorem words_two {a b : Bs} (ha : ∀ x ∈ a, (x == 32) = false) (hb : ∀ x ∈ b, (x == 32) = false) (ha0 : a.isEmpty = false) (hb0 : b.isEmpty = false) (h35 : ∀ x ∈ a ++ 32 :: b, (x == 35) = false) : wordsL (a ++ 32 :: b) = [a, b] := by
  have hc : cutR (a ++ 32 :: b) = a ++ 32 :: b := by
    unfold cutR
    exact front_id _ _ fun x hx => by
      have := h35 x hx
      simpa using this
  unfold wordsL
  rw [hc, splitT_put 32 a b ha, splitT_all 32 b hb]
  simp [ha0, hb0]
theorem words_tline {n : Bs} (h : namedT n = true) : wordsL (tline n) = [tgtW, n] :=
  words_two (by decide) (named_plainT h 32 (by decide)) rfl (named_neT h) (mem_tline h 35 (by decide) (by decide) (by decide))
theorem words_dline {n : Bs} (h : namedT n = true) : wordsL (dline n) = [depW, 58 :: n] :=
  words_two (by decide) (fun x hx => by
    rcases List.mem_cons.1 hx with rfl | hx
    · decide
    · exact named_plainT h 32 (by decide) x hx) rfl rfl (mem_dline h 35 (by decide) (by decide) (by decide) (by decide))
theorem line_target {l : List Tg} {n : Bs} (dir : Bs) (h : namedT n = true) (hn : hasN l (dir ++ 58 :: n) = false) : lineT dir l [tgtW, n] = .ok (l ++ [⟨dir ++ 58 :: n, [], []⟩]) := by
  rw [lineT_two]
  unfold actT targetT
  rw [if_pos (by simp), if_pos h, hn]
  rfl
theorem line_dep (dir : Bs) (x : Tg) {n : Bs} (h : namedT n = true) : lineT dir [x] [depW, 58 :: n] = .ok [{ x with d := x.d ++ [dir ++ 58 :: n] }] := by
  rw [lineT_two]
  unfold actT depT labelT
  have e1 : (depW == tgtW) = false := by decide
  have e2 : (depW == srcW) = false := by decide
  have hc : cutC (58 :: n) = ([], n) := rfl
  rw [e1, e2, hc, h]
  rfl
def oneU (n o : Bs) : Bs := tline n ++ 10 :: (dline o ++ [10])
def twoV (n o : Bs) : Bs := tline n ++ 10 :: (dline o ++ 10 :: tline o)
theorem parse_U {n o : Bs} (hn : namedT n = true) (ho : namedT o = true) : parseB zzD (oneU n o) = (0, [⟨zzD ++ 58 :: n, [], [zzD ++ 58 :: o]⟩]) := by
  have hl : n.length ≤ 20 ∧ o.length ≤ 20 := by
    unfold namedT at hn ho
    simp only [Bool.and_eq_true, decide_eq_true_eq] at hn ho
    exact ⟨hn.1.2, ho.1.2⟩
  have hs : splitL 10 (oneU n o) = [tline n, dline o, []] := by
    unfold oneU
    rw [splitT_put 10 _ _ (mem_tline hn 10 (by decide) (by decide) (by decide)), splitT_put 10 _ _ (mem_dline ho 10 (by decide) (by decide) (by decide) (by decide))]
    rfl
  have hz : ¬ 16384 < (oneU n o).length := by
    unfold oneU tline dline
    simp only [List.length_append, List.length_cons, List.length_nil]
    have : tgtW.length = 6 := rfl
    have : depW.length = 3 := rfl
    omega
  unfold parseB
  rw [if_neg (by decide), if_neg hz, hs]
  unfold parseT
  rw [List.map_cons, List.map_cons, List.map_cons, List.map_nil, words_tline hn, words_dline ho, linesT_cons]
  rw [show (Except.ok [] : Except Int (List Tg)).bind (lineT zzD · [tgtW, n]) = .ok [⟨zzD ++ 58 :: n, [], []⟩] from line_target zzD hn rfl, linesT_cons]
  rw [show (Except.ok [⟨zzD ++ 58 :: n, [], []⟩] : Except Int (List Tg)).bind (lineT zzD · [depW, 58 :: o]) = .ok [⟨zzD ++ 58 :: n, [], [zzD ++ 58 :: o]⟩] from line_dep zzD _ ho]
  rfl
theorem parse_V {n o : Bs} (hn : namedT n = true) (ho : namedT o = true) (hne : n ≠ o) : parseB zzD (twoV n o) = (0, [⟨zzD ++ 58 :: n, [], [zzD ++ 58 :: o]⟩, ⟨zzD ++ 58 :: o, [], []⟩]) := by
  have hl : n.length ≤ 20 ∧ o.length ≤ 20 := by
    unfold namedT at hn ho
    simp only [Bool.and_eq_true, decide_eq_true_eq] at hn ho
    exact ⟨hn.1.2, ho.1.2⟩
  have hs : splitL 10 (twoV n o) = [tline n, dline o, tline o] := by
    unfold twoV
    rw [splitT_put 10 _ _ (mem_tline hn 10 (by decide) (by decide) (by decide)), splitT_put 10 _ _ (mem_dline ho 10 (by decide) (by decide) (by decide) (by decide)), splitT_all 10 _ (mem_tline ho 10 (by decide) (by decide) (by decide))]
  have hz : ¬ 16384 < (twoV n o).length := by
    unfold twoV tline dline
    simp only [List.length_append, List.length_cons]
    have : tgtW.length = 6 := rfl
    have : depW.length = 3 := rfl
    omega
  have hf : hasN [⟨zzD ++ 58 :: n, [], [zzD ++ 58 :: o]⟩] (zzD ++ 58 :: o) = false := by
    unfold hasN
    simp only [List.any_cons, List.any_nil, Bool.or_false]
    rw [beq_eq_false_iff_ne]
    intro e
    have := List.append_cancel_left e
    exact hne (List.cons.inj this).2
  unfold parseB
  rw [if_neg (by decide), if_neg hz, hs]
  unfold parseT
  rw [List.map_cons, List.map_cons, List.map_cons, List.map_nil, words_tline hn, words_dline ho, words_tline ho, linesT_cons]
  rw [show (Except.ok [] : Except Int (List Tg)).bind (lineT zzD · [tgtW, n]) = .ok [⟨zzD ++ 58 :: n, [], []⟩] from line_target zzD hn rfl, linesT_cons]
  rw [show (Except.ok [⟨zzD ++ 58 :: n, [], []⟩] : Except Int (List Tg)).bind (lineT zzD · [depW, 58 :: o]) = .ok [⟨zzD ++ 58 :: n, [], [zzD ++ 58 :: o]⟩] from line_dep zzD _ ho, linesT_cons]
  rw [show (Except.ok [⟨zzD ++ 58 :: n, [], [zzD ++ 58 :: o]⟩] : Except Int (List Tg)).bind (lineT zzD · [tgtW, o]) = .ok [⟨zzD ++ 58 :: n, [], [zzD ++ 58 :: o]⟩, ⟨zzD ++ 58 :: o, [], []⟩] from line_target zzD ho hf]
  rfl
theorem gather_zz (t : List Fl) (b : Bs) (m : List Tg) (hz : hasT t zzB = false) (hb : parseB zzD b = (0, m)) {l : List Tg} (h : gatherT t (.ok []) = .ok l) : ∃ k, gatherT (putT t (zzB, b)) (.ok []) = .ok k ∧ k.Perm (l ++ m) := by
  unfold putT
  rw [dropT_none hz]
  obtain ⟨a, c, h1, h2⟩ := insT_split t (zzB, b)
  rw [h2]
  rw [h1, gatherT_append] at h
  rw [gatherT_append, gatherT_cons]
  cases ea : gatherT a (.ok []) with
  | error e => rw [ea, gatherT_err] at h; cases h
  | ok la =>
    rw [ea, gather_more] at h
    cases ec : gatherT c (.ok []) with
    | error e => rw [ec] at h; cases h
    | ok lc =>
      rw [ec] at h
      cases h
      have e1 : bodyT (zzB, b) = .ok m := by
        unfold bodyT
        have : dirL zzB = zzD := by decide +kernel
        show (if (parseB (dirL zzB) b).1 = 0 then Except.ok (parseB (dirL zzB) b).2 else _) = _
        rw [this, hb]; rfl
      have e2 : isBd zzB = true := by decide +kernel
      refine ⟨la ++ m ++ lc, ?_, ?_⟩
      · show gatherT c (if isBd zzB then (bodyT (zzB, b)).map (la ++ ·) else .ok la) = _
        rw [e2, if_pos rfl, e1]
        show gatherT c (.ok (la ++ m)) = _
        rw [gather_more, ec]; rfl
      · rw [List.append_assoc, List.append_assoc]
        exact List.Perm.append_left la List.perm_append_comm
/-- What the law BuildDeps says. -/
theorem allT_deps {t : List Fl} {n o : Bs} (hn : namedT n = true) (ho : namedT o = true) (hne : n ≠ o) (hz : hasT t zzB = false) (h : (allT t).1 = 0) :
    (allT (putT t (zzB, oneU n o))).1 = 13 ∧ placeT (allT t).2 (zzD ++ 58 :: o) = -1 ∧ (allT (putT t (zzB, twoV n o))).1 = 0 ∧ (allT (putT t (zzB, twoV n o))).2.length = (allT t).2.length + 2 ∧ 0 ≤ placeT (allT (putT t (zzB, twoV n o))).2 (zzD ++ 58 :: n) := by
  unfold allT at h
  cases e : gatherT t (.ok []) with
  | error k =>
    rw [e] at h
    have : k = 0 := h
    subst this
    exact absurd e (gather_ne t)
  | ok l =>
    rw [e] at h
    by_cases hw : wholeT l = 0
    · have hall : allT t = (0, sortN l) := by unfold allT; rw [e]; simp only [if_pos hw]
      have f1 := zz_fresh e hz n
      have f2 := zz_fresh e hz o
      obtain ⟨k1, g1, p1⟩ := gather_zz t _ _ hz (parse_U hn ho) e
      obtain ⟨k2, g2, p2⟩ := gather_zz t _ _ hz (parse_V hn ho hne) e
      have hnd : (l.map Tg.n).Nodup ∧ l.all (fun x => x.d.all (fun d => hasN l d)) = true := by
        unfold wholeT at hw
        split at hw
        · rename_i h1
          split at hw
          · rename_i h2; exact ⟨h1, h2⟩
          · cases hw
        · cases hw
      have q1 : zzD ++ 58 :: n ∉ l.map Tg.n := fun hm => by rw [(hasN_iff l _).2 hm] at f1; cases f1
      have q2 : zzD ++ 58 :: o ∉ l.map Tg.n := fun hm => by rw [(hasN_iff l _).2 hm] at f2; cases f2
      have q3 : (zzD ++ 58 :: n : Bs) ≠ zzD ++ 58 :: o := fun e => hne (List.cons.inj (List.append_cancel_left e)).2
      have w1 : wholeT k1 = 13 := by
        rw [wholeT_perm p1]
        unfold wholeT
        rw [if_pos]
        · rw [if_neg]
          intro H
          have := List.all_eq_true.1 H ⟨zzD ++ 58 :: n, [], [zzD ++ 58 :: o]⟩ (by simp)
          simp only [List.all_cons, List.all_nil, Bool.and_true] at this
          rw [hasN_iff, List.map_append, List.mem_append] at this
          rcases this with h9 | h9
          · exact q2 h9
          · simp only [List.map_cons, List.map_nil, List.mem_singleton] at h9
            exact q3 h9.symm
        · rw [List.map_append, List.nodup_append]
          refine ⟨hnd.1, by simp, fun a ha b hb => ?_⟩
          simp only [List.map_cons, List.map_nil, List.mem_singleton] at hb
          subst hb
          rintro rfl; exact q1 ha
      have w2 : wholeT k2 = 0 := by
        rw [wholeT_perm p2]
        unfold wholeT
        rw [if_pos]
        · rw [if_pos]
          rw [List.all_eq_true]
          intro x hx
          rw [List.all_eq_true]
          intro d hd
          rw [hasN_iff, List.map_append, List.mem_append]
          rcases List.mem_append.1 hx with hx | hx
          · exact .inl ((hasN_iff l d).1 (List.all_eq_true.1 (List.all_eq_true.1 hnd.2 x hx) d hd))
          · simp only [List.mem_cons, List.mem_nil_iff, or_false] at hx
            rcases hx with rfl | rfl
            · simp only [List.mem_singleton] at hd
              subst hd
              exact .inr (by simp)
            · simp at hd
        · rw [List.map_append, List.nodup_append]
          refine ⟨hnd.1, ?_, fun a ha b hb => ?_⟩
          · simp only [List.map_cons, List.map_nil]
            exact List.nodup_cons.2 ⟨by simp only [List.mem_singleton]; exact q3, by simp⟩
          · simp only [List.map_cons, List.map_nil, List.mem_cons, List.mem_nil_iff, or_false] at hb
            rcases hb with rfl | rfl
            · rintro rfl; exact q1 ha
            · rintro rfl; exact q2 ha
      have a1 : allT (putT t (zzB, oneU n o)) = (13, []) := by
        unfold allT
        rw [g1]
        show (if wholeT k1 = 0 then (0, sortN k1) else (wholeT k1, [])) = _
        rw [w1]; rfl
      have a2 : allT (putT t (zzB, twoV n o)) = (0, sortN k2) := by
        unfold allT
        rw [g2]
        show (if wholeT k2 = 0 then (0, sortN k2) else (wholeT k2, [])) = _
        rw [if_pos w2]
      rw [hall, a1, a2]
      have s1 := sortN_perm l
      have s2 := (sortN_perm k2).trans p2
      refine ⟨rfl, ?_, rfl, ?_, ?_⟩
      · refine place_none ?_
        cases e9 : hasN (sortN l) (zzD ++ 58 :: o) with
        | false => rfl
        | true => exact absurd (((s1.map Tg.n).mem_iff).1 ((hasN_iff _ _).1 e9)) q2
      · have h1 := s1.length_eq
        have h2 := s2.length_eq
        rw [List.length_append] at h2
        show (sortN k2).length = (sortN l).length + 2
        rw [h1, h2]; rfl
      · refine place_has ((hasN_iff _ _).2 (((s2.map Tg.n).mem_iff).2 ?_))
        simp
    · simp only [if_neg hw] at h
      exact absurd h hw
end Go.Proofs.YtlampcelmlejbaaDoor
