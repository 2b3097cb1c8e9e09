/-
  The contracts of the document's own answers of layer 2: find, Drop, Put, Same.
-/
import Derived.Test.YtnkfnmkbfnhmfaaDoorTSizes
namespace Go.Proofs.YtnkfnmkbfnhmfaaDoor
open Go Go.RowKit Go.Shelf Go.Proofs
attribute [local go_sem] Oper.semAt_some

/-- One file more in a row of the call's own. -/
theorem wpList_append_file {ops : Array Oper} {rest : List Oper} {o : Oper} {a : Act} {w : World} {Q : Exit → Act → World → Prop} (hgd : o.guard = none) (s x : Operand)
    (ho : o.op = .call { callee := .builtin .append, args := #[s, x], argTypes := #[23, 23] })
    (base : Nat) (v : Value) (l : List FX) (f : FX) (g c : Nat) (hs : a.eval s = v) (hown : FilesOwn base w v l) (hx : a.eval x = .slice (some ⟨g, 0, none⟩) 1 c) (hb : BoxF w g f) (hl : l.length ≤ 100000) (hbase : base ≤ w.heap.size)
    (h : ∀ v' w', FilesOwn base w' v' (l ++ [f]) → w.grownBy w' v.ownBlock → wpList Tryd.prog ops Q rest (a.put o.dst v') w') : wpList Tryd.prog ops Q (o :: rest) a w := by
  obtain ⟨i0, hi, hz0, hz1, hz2⟩ := info_parts file_info
  refine wpList_append_own w hgd s x 23 ho base 57 i0 (.agg #[.string ⟨#[]⟩, .slice none 0 0]) 2 40 Tryd.underlying23 hi hz0 hz1 hz2 rfl (by decide) v l.length (fcells l) hs hown ⟨g, 0, none⟩ 1 c f.cs hx rfl ?_ ?_ (by unfold maxLen; omega) (by omega) hbase fun v' w' h1 h2 _ => h v' w' ?_ h2
  · intro j u hu
    rw [Go.WideShapes.add_plain, Nat.zero_add]
    match j, hu with
    | 0, hu => obtain rfl : Value.string f.p = u := by simpa [FX.cs] using hu
               exact hb.c0
    | 1, hu => obtain rfl : Value.slice f.A f.b.length f.c = u := by simpa [FX.cs] using hu
               exact hb.c1
    | j + 2, hu => simp [FX.cs] at hu
  · intro u hu
    simp only [FX.cs, List.mem_cons, List.mem_nil_iff, or_false] at hu
    rcases hu with rfl | rfl <;> rfl
  · show World.ownsRow _ _ _ _ _ _ _
    rw [List.length_append, fcells_append]; exact h1
/-- What a call of the document's answers, other files' bytes shared: a row of its own. -/
def RefPost (w : World) (l : List FX) (e : Ending) (w' : World) : Prop := ∃ v', e = .returned v' ∧ FilesOwn w.heap.size w' v' l ∧ Below w.heap.size w w'

theorem keepX_step {l : List FX} {k : Nat} {x : FX} (s : ByteArray) (hx : l[k]? = some x) : keepX (l.take (k + 1)) s = keepX (l.take k) s ++ (if (x.p.toList == s.toList) = true then [] else [x]) := by
  unfold keepX
  rw [List.take_add_one, hx, List.filter_append]
  congr 1
  show [x].filter _ = _
  rw [List.filter_cons]
  cases x.p.toList == s.toList <;> rfl

/-- What Put has laid behind k files of the list without the path. -/
def putTo (L : List FX) (f : FX) (k : Nat) : List FX := if k ≤ aboveX L f.p then L.take k else L.take (aboveX L f.p) ++ f :: (L.drop (aboveX L f.p)).take (k - aboveX L f.p)
theorem aboveX_front {L : List FX} {s : ByteArray} {j : Nat} {y : FX} (hj : j < aboveX L s) (hy : L[j]? = some y) : ltB s.data.toList y.p.data.toList = false := by
  unfold aboveX at hj
  have h1 := (List.takeWhile_prefix (l := L) fun x => !ltB s.data.toList x.p.data.toList).getElem hj
  have h3 := List.all_eq_true.1 (List.all_takeWhile (l := L) (p := fun x => !ltB s.data.toList x.p.data.toList)) _ (List.getElem_mem hj)
  rw [h1] at h3
  obtain ⟨_, e⟩ := List.getElem?_eq_some_iff.1 hy
  rw [e] at h3
  simpa using h3
theorem aboveX_at {L : List FX} {s : ByteArray} {y : FX} (hy : L[aboveX L s]? = some y) : ltB s.data.toList y.p.data.toList = true := by
  have h := dropWhile_head (fun x : FX => !ltB s.data.toList x.p.data.toList) L
  have e : L.drop (aboveX L s) = L.dropWhile (fun x : FX => !ltB s.data.toList x.p.data.toList) := by
    unfold aboveX
    conv => lhs; arg 2; rw [← List.takeWhile_append_dropWhile (p := fun x : FX => !ltB s.data.toList x.p.data.toList) (l := L)]
    rw [List.drop_left]
  have h2 : L.dropWhile (fun x : FX => !ltB s.data.toList x.p.data.toList) = y :: L.drop (aboveX L s + 1) := by
    rw [← e]
    obtain ⟨hl, rfl⟩ := List.getElem?_eq_some_iff.1 hy
    exact List.drop_eq_getElem_cons hl
  have := h _ _ h2
  simpa using this
theorem put_zero (L : List FX) (f : FX) : putTo L f 0 = [] := by unfold putTo; rw [if_pos (Nat.zero_le _)]; rfl
theorem put_under {L : List FX} {f x : FX} {k : Nat} (hx : L[k]? = some x) (hk : k ≤ aboveX L f.p) (hu : ltB f.p.data.toList x.p.data.toList = false) : k < aboveX L f.p ∧ putTo L f (k + 1) = putTo L f k ++ [x] := by
  have h1 : k < aboveX L f.p := by
    rcases Nat.lt_or_eq_of_le hk with h | h
    · exact h
    · rw [h] at hx
      rw [aboveX_at hx] at hu; cases hu
  refine ⟨h1, ?_⟩
  unfold putTo
  rw [if_pos hk, if_pos (show k + 1 ≤ _ from h1), List.take_add_one, hx]; rfl
theorem put_above {L : List FX} {f x : FX} {k : Nat} (hx : L[k]? = some x) (hk : k ≤ aboveX L f.p) (hu : ltB f.p.data.toList x.p.data.toList = true) : k = aboveX L f.p ∧ putTo L f (k + 1) = (putTo L f k ++ [f]) ++ [x] := by
  have h1 : k = aboveX L f.p := by
    rcases Nat.lt_or_eq_of_le hk with h | h
    · rw [aboveX_front h hx] at hu; cases hu
    · exact h
  refine ⟨h1, ?_⟩
  unfold putTo
  rw [if_pos hk, if_neg (by omega), ← h1, show k + 1 - k = 1 from by omega]
  obtain ⟨hl, rfl⟩ := List.getElem?_eq_some_iff.1 hx
  rw [List.drop_eq_getElem_cons hl]
  simp only [List.take_succ_cons, List.take_zero, List.append_assoc, List.cons_append, List.nil_append]
theorem put_laid {L : List FX} {f x : FX} {k : Nat} (hx : L[k]? = some x) (hk : aboveX L f.p < k) : putTo L f (k + 1) = putTo L f k ++ [x] := by
  unfold putTo
  rw [if_neg (by omega), if_neg (by omega), show k + 1 - aboveX L f.p = (k - aboveX L f.p) + 1 from by omega, List.take_add_one, List.getElem?_drop, show aboveX L f.p + (k - aboveX L f.p) = k from by omega, hx]
  simp
theorem put_last {L : List FX} {f : FX} (hk : L.length ≤ aboveX L f.p) : putTo L f L.length ++ [f] = insX L (aboveX L f.p) f := by
  have h1 := aboveX_le L f.p
  have h2 : aboveX L f.p = L.length := by omega
  unfold putTo insX
  rw [if_pos hk, h2, List.take_length, List.drop_length]
theorem put_done {L : List FX} {f : FX} (hk : aboveX L f.p < L.length) : putTo L f L.length = insX L (aboveX L f.p) f := by
  unfold putTo insX
  rw [if_neg (by omega), List.take_of_length_le (l := L.drop (aboveX L f.p)) (by rw [List.length_drop]; omega)]
theorem putTo_le (L : List FX) (f : FX) (k : Nat) : (putTo L f k).length ≤ L.length + 1 := by
  unfold putTo
  split
  · rw [List.length_take]; omega
  · rw [List.length_append, List.length_cons, List.length_take, List.length_take, List.length_drop]; omega
theorem putTo_sub {L : List FX} {f : FX} {k : Nat} : ∀ x ∈ putTo L f k, x = f ∨ x ∈ L := fun x hx => by
  unfold putTo at hx
  split at hx
  · exact .inr (List.mem_of_mem_take hx)
  · rcases List.mem_append.1 hx with h | h
    · exact .inr (List.mem_of_mem_take h)
    · rcases List.mem_cons.1 h with h | h
      · exact .inl h
      · exact .inr (List.mem_of_mem_drop (List.mem_of_mem_take h))
theorem keepX_ne {l : List FX} {s : ByteArray} {x : FX} (h : x ∈ keepX l s) : (x.p.toList == s.toList) = false := by
  have := (List.mem_filter.1 h).2
  simpa using this

end Go.Proofs.YtnkfnmkbfnhmfaaDoor
