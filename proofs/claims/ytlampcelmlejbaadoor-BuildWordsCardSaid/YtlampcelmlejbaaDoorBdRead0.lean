/-
  What reading a line wants: the three acts as one; bounds; where the reader's base is.
-/
import Derived.Test.YtlampcelmlejbaaDoorBdActs
namespace Go.Proofs.YtlampcelmlejbaaDoor
open Go Go.RowKit Go.Shelf Go.Proofs

theorem key_eq (wd k : ByteArray) (K : Bs) (hk : k.data.toList = K) : (wd == k) = (wd.data.toList == K) := by
  subst hk
  rw [Bool.eq_iff_iff, MapKept.bytes_beq, beq_iff_eq]
  exact ⟨fun e => by rw [e], fun h => by cases wd; cases k; congr 1; exact Array.toList_inj.1 h⟩
theorem kTarget_l : kTarget.data.toList = tgtW := by decide
theorem kSrc_l : kSrc.data.toList = srcW := by decide
theorem kDep_l : kDep.data.toList = depW := by decide
/-- The three acts: which one a word names, and what it does. -/
theorem act_any (base R m : Nat) (dir : ByteArray) (L : List TX) (K : List Bs) (wd t : ByteArray) (W : World) (h : RdO base R m dir L K W) (hK : K = (tgsX L).map (·.n)) (hl : L.length ≤ 100000) (hl2 : ∀ x ∈ L, x.s.length ≤ 100000 ∧ x.d.length ≤ 100000) (hR : R < base) (hm : m < base) (hRm : R ≠ m) (hbase : base ≤ W.heap.size) (hd : dir.size ≤ 100000) (ht : t.size ≤ 100000) (hM : MaxOk W) :
    (∃ (i : Nat) (fn : FuncId), (fn = 61 ∨ fn = 62 ∨ fn = 63) ∧ Instr.findNow .string (.string wd) (actsE R).toList 0 = some (some (i, actOf R fn)) ∧
      Calls Tryd.prog fn #[.pointer (some ⟨R, 0, none⟩), .string t] W (ActPost base R m dir (actT dir.data.toList (tgsX L) wd.data.toList t.data.toList) W)) ∨
    (Instr.findNow .string (.string wd) (actsE R).toList 0 = some none ∧ actT dir.data.toList (tgsX L) wd.data.toList t.data.toList = .error 11) := by
  rw [acts_find, key_eq wd _ _ kTarget_l, key_eq wd _ _ kSrc_l, key_eq wd _ _ kDep_l]
  unfold actT
  cases h1 : (wd.data.toList == tgtW) with
  | true => exact .inl ⟨0, _, .inl rfl, rfl, btarget_any base R m dir L K t W h hK hl hR hm hRm hbase hd ht⟩
  | false =>
    cases h2 : (wd.data.toList == srcW) with
    | true => exact .inl ⟨1, _, .inr (.inl rfl), rfl, bsrc_any base R m dir L K t W h hK (fun x hx => (hl2 x hx).1) hR hm hbase hd ht hM⟩
    | false =>
      cases h3 : (wd.data.toList == depW) with
      | true => exact .inl ⟨2, _, .inr (.inr rfl), rfl, bdep_any base R m dir L K t W h hK (fun x hx => (hl2 x hx).2) hR hm hbase hd ht hM⟩
      | false => exact .inr ⟨rfl, rfl⟩

/-- No more targets, and of each no more files and no more that it stands on, than lines were read. -/
def BdK (k : Nat) (l : List Tg) : Prop := l.length ≤ k ∧ ∀ x ∈ l, x.s.length ≤ k ∧ x.d.length ≤ k
theorem lastM_len (f : Tg → Tg) : ∀ l : List Tg, (lastM f l).length = l.length
  | [] => rfl
  | [_] => rfl
  | x :: y :: r => by show (lastM f (y :: r)).length + 1 = _; rw [lastM_len f (y :: r)]; rfl
theorem lastM_mem (f : Tg → Tg) : ∀ (l : List Tg) (x : Tg), x ∈ lastM f l → x ∈ l ∨ ∃ y ∈ l, x = f y
  | [], x, h => by cases h
  | [a], x, h => by
    have : x = f a := by simpa [lastM] using h
    exact .inr ⟨a, by simp, this⟩
  | a :: b :: r, x, h => by
    rcases List.mem_cons.1 (show x ∈ a :: lastM f (b :: r) from h) with e | h
    · exact .inl (by simp [e])
    · rcases lastM_mem f (b :: r) x h with h | ⟨y, hy, e⟩
      · exact .inl (List.mem_cons_of_mem _ h)
      · exact .inr ⟨y, List.mem_cons_of_mem _ hy, e⟩
theorem BdK.mono {k j : Nat} {l : List Tg} (h : BdK k l) (hj : k ≤ j) : BdK j l := ⟨Nat.le_trans h.1 hj, fun x hx => ⟨Nat.le_trans (h.2 x hx).1 hj, Nat.le_trans (h.2 x hx).2 hj⟩⟩
theorem BdK.line {k : Nat} {dir : Bs} {l l' : List Tg} {ws : List Bs} (h : BdK k l) (e : lineT dir l ws = .ok l') : BdK (k + 1) l' := by
  unfold lineT at e
  split at e
  · cases e; exact h.mono (by omega)
  · unfold actT at e
    split at e
    · unfold targetT at e
      split at e
      · split at e
        · cases e
        · cases e
          refine ⟨by simp; exact h.1, fun x hx => ?_⟩
          rcases List.mem_append.1 hx with hx | hx
          · exact (h.mono (Nat.le_succ k)).2 x hx
          · simp only [List.mem_singleton] at hx; subst hx; simp
      · cases e
    · split at e
      · unfold srcT at e
        split at e
        · cases e
          refine ⟨by rw [lastM_len]; exact Nat.le_succ_of_le h.1, fun x hx => ?_⟩
          rcases lastM_mem _ _ _ hx with hx | ⟨y, hy, rfl⟩
          · exact (h.mono (Nat.le_succ k)).2 x hx
          · have := h.2 y hy; simp; omega
        · cases e
      · split at e
        · unfold depT at e
          split at e
          · cases e
          · split at e
            · cases e
            · cases e
              refine ⟨by rw [lastM_len]; exact Nat.le_succ_of_le h.1, fun x hx => ?_⟩
              rcases lastM_mem _ _ _ hx with hx | ⟨y, hy, rfl⟩
              · exact (h.mono (Nat.le_succ k)).2 x hx
              · have := h.2 y hy; simp; omega
        · cases e
  · cases e
/-- A reader that has read nothing has any base. -/
theorem RdO.rebase {base base' R m : Nat} {dir : ByteArray} {W : World} (h : RdO base R m dir [] [] W) (hn : ∃ c, W.heap[R]? = some (.cells #[.pointer none, .string dir, .slice none 0 c, .map (some m)] 70 (0, 0)) ∧ c = 0) : RdO base' R m dir [] [] W := by
  obtain ⟨c, hc, rfl⟩ := hn
  refine ⟨⟨none, 0, by simpa [endA] using hc, World.ownsRow_nil _ _ _ _⟩, (fun x hx => by cases hx), (fun M x e => by simp at e), h.names⟩
theorem TurnR.rebase {base base' R m : Nat} {W W' : World} (h : TurnR base' R m W W') (hb : base ≤ base') : TurnR base R m W W' :=
  ⟨h.os, h.tape, h.output, h.size, fun j hj => h.low j (by omega), h.same⟩
/-- What was read so far: the lines up to k. -/
def readTo (dir : Bs) (s : ByteArray) (k : Nat) : Except Int (List Tg) := linesT dir (((splitL 10 s.data.toList).take k).map wordsL) (.ok [])
theorem readTo_step {dir : Bs} {s : ByteArray} {k : Nat} {x : ByteArray} {l : List Tg} (hx : (piecesB 10 s)[k]? = some x) (h : readTo dir s k = .ok l) : readTo dir s (k + 1) = lineT dir l (wordsL x.data.toList) := by
  unfold readTo at h ⊢
  unfold piecesB at hx
  rw [List.getElem?_map] at hx
  cases e : (splitL 10 s.data.toList)[k]? with
  | none => rw [e] at hx; cases hx
  | some p =>
    rw [e] at hx
    cases hx
    rw [List.take_add_one, e, Option.toList_some, List.map_append]
    unfold linesT at h ⊢
    rw [List.foldl_append, h, mkB_data]
    rfl
end Go.Proofs.YtlampcelmlejbaaDoor
