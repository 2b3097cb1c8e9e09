/-
  Journals, plain: numbered frames, the newest slot, records of a number, and what is done to a journal's disk. No program is named here.
-/
import Derived.Test.YtojkifcclgecoaaFrPlain
import Derived.Test.YtojkifcclgecoaaDkCalm
namespace Go.Proofs.Ytojkifcclgecoaa
open Go Go.Proofs.Ytojkifcclgecoaa.Dk

/-- The frame of a number and some bytes. -/
def numbF (n : Nat) (b : Bs) : Bs := encF (beN 8 n ++ b)
theorem numbF_length (n : Nat) (b : Bs) : (numbF n b).length = 16 + b.length := by unfold numbF; rw [encF_length, List.length_append, beN_length]; omega
/-- The number and the rest of the frame that b begins with. -/
def numb (b : Bs) : Option (Nat × Bs) := (nextF b).bind fun x => if 8 ≤ x.length then some (valN (x.take 8), x.drop 8) else none
theorem numb_of {b x : Bs} (h : nextF b = some x) (h8 : 8 ≤ x.length) : numb b = some (valN (x.take 8), x.drop 8) := by unfold numb; rw [h]; simp [h8]
theorem numb_short {b x : Bs} (h : nextF b = some x) (h8 : x.length < 8) : numb b = none := by unfold numb; rw [h]; simp; omega
theorem numb_none {b : Bs} (h : nextF b = none) : numb b = none := by unfold numb; rw [h]; rfl
theorem numb_join {n : Nat} {b t : Bs} (hn : n < 2 ^ 64) (hb : b.length ≤ 65528) : numb (numbF n b ++ t) = some (n, b) := by
  have h1 : nextF (numbF n b ++ t) = some (beN 8 n ++ b) := next_enc (by rw [List.length_append, beN_length]; omega)
  rw [numb_of h1 (by rw [List.length_append, beN_length]; omega), List.take_left' (beN_length 8 n), List.drop_left' (beN_length 8 n), val_be, Nat.mod_eq_of_lt (by omega)]
theorem numb_few {b : Bs} (h : b.length < 16) : numb b = none := by
  cases hx : nextF b with
  | none => exact numb_none hx
  | some x => exact numb_short hx (by have := (next_some hx).2.2; omega)
/-- A frame that is cut short is none. -/
theorem numb_cut {n k : Nat} {b t : Bs} (hb : b.length ≤ 65528) (hk : k < 16 + b.length) : numb ((numbF n b ++ t).take k) = none :=
  numb_none (next_cut (by rw [List.length_append, beN_length]; omega) (by rw [List.length_append, beN_length]; omega))
theorem numb_lt {b : Bs} {x : Nat × Bs} (h : numb b = some x) : x.1 < 2 ^ 64 ∧ 16 + x.2.length ≤ b.length := by
  unfold numb at h
  cases hx : nextF b with
  | none => rw [hx] at h; cases h
  | some y =>
    rw [hx] at h
    have h3 := (next_some hx).2.2
    by_cases h8 : 8 ≤ y.length
    · rw [Option.bind_some, if_pos h8] at h
      cases h
      refine ⟨?_, by show 16 + (y.drop 8).length ≤ _; rw [List.length_drop]; omega⟩
      have := valN_lt 8 (y.take 8) (by rw [List.length_take]; omega)
      show valN (y.take 8) < 2 ^ 64
      omega
    · rw [Option.bind_some, if_neg h8] at h; cases h

/-- The newest of some slots. -/
def newStep (o : Option (Nat × Bs)) (b : Bs) : Option (Nat × Bs) := match numb b with
  | none => o
  | some x => match o with
    | none => some x
    | some y => if y.1 < x.1 then some x else some y
theorem newStep_none {b : Bs} (h : numb b = none) (o : Option (Nat × Bs)) : newStep o b = o := by unfold newStep; rw [h]
theorem newStep_first {b : Bs} {x : Nat × Bs} (h : numb b = some x) : newStep none b = some x := by unfold newStep; rw [h]
theorem newStep_more {b : Bs} {x : Nat × Bs} (h : numb b = some x) (y : Nat × Bs) : newStep (some y) b = if y.1 < x.1 then some x else some y := by unfold newStep; rw [h]
def newL (l : List Bs) : Option (Nat × Bs) := l.foldl newStep none
theorem newL_snoc {l : List Bs} {k : Nat} {x : Bs} (h : l[k]? = some x) : newL (l.take (k + 1)) = newStep (newL (l.take k)) x := by
  unfold newL
  rw [List.take_add_one, h, List.foldl_append]; rfl
def seqO (o : Option (Nat × Bs)) : Nat := (o.map Prod.fst).getD 0
def staO (o : Option (Nat × Bs)) : Bs := (o.map Prod.snd).getD []

/-- The records of a number. -/
def recF : Nat → Nat → Bs → List Bs
  | 0, _, _ => []
  | f + 1, q, b => match numb b with
    | none => []
    | some x => if x.1 = q then x.2 :: recF f q (b.drop (16 + x.2.length)) else []
def recL (q : Nat) (b : Bs) : List Bs := recF b.length q b
def joinR (q : Nat) (l : List Bs) : Bs := l.flatMap (numbF q)
def lenR (l : List Bs) : Nat := (l.map fun x => 16 + x.length).sum
theorem joinR_length (q : Nat) (l : List Bs) : (joinR q l).length = lenR l := by
  unfold joinR lenR
  rw [List.length_flatMap]
  congr 1
  exact List.map_congr_left fun x _ => numbF_length q x
theorem joinR_nil (q : Nat) : joinR q [] = [] := rfl
theorem joinR_cons (q : Nat) (x : Bs) (l : List Bs) : joinR q (x :: l) = numbF q x ++ joinR q l := rfl
theorem joinR_append (q : Nat) (a b : List Bs) : joinR q (a ++ b) = joinR q a ++ joinR q b := by unfold joinR; rw [List.flatMap_append]
theorem lenR_nil : lenR [] = 0 := rfl
theorem lenR_cons (x : Bs) (l : List Bs) : lenR (x :: l) = 16 + x.length + lenR l := by unfold lenR; rw [List.map_cons, List.sum_cons]
theorem lenR_append (a b : List Bs) : lenR (a ++ b) = lenR a + lenR b := by unfold lenR; rw [List.map_append, List.sum_append]
theorem lenR_snoc {l : List Bs} {k : Nat} {x : Bs} (h : l[k]? = some x) : lenR (l.take (k + 1)) = lenR (l.take k) + (16 + x.length) := by
  unfold lenR; rw [List.take_add_one, h]; simp
theorem recF_more : ∀ (f g q : Nat) (b : Bs), b.length ≤ f → b.length ≤ g → recF f q b = recF g q b
  | 0, 0, _, _, _, _ => rfl
  | 0, g + 1, q, b, h, _ => by show [] = recF (g + 1) q b; unfold recF; rw [numb_few (by omega)]
  | f + 1, 0, q, b, _, h => by show recF (f + 1) q b = []; unfold recF; rw [numb_few (by omega)]
  | f + 1, g + 1, q, b, hf, hg => by
    unfold recF
    cases hn : numb b with
    | none => rfl
    | some x =>
      have := (numb_lt hn).2
      show (if x.1 = q then _ else _) = (if x.1 = q then _ else _)
      rw [recF_more f g q _ (by rw [List.length_drop]; omega) (by rw [List.length_drop]; omega)]
theorem recL_none {q : Nat} {b : Bs} (h : numb b = none) : recL q b = [] := by
  unfold recL
  cases hb : b.length with
  | zero => rfl
  | succ n => unfold recF; rw [h]
theorem recL_other {q : Nat} {b : Bs} {x : Nat × Bs} (h : numb b = some x) (hx : x.1 ≠ q) : recL q b = [] := by
  unfold recL
  cases hb : b.length with
  | zero => rfl
  | succ n => unfold recF; rw [h]; exact if_neg hx
theorem recL_some {q : Nat} {b : Bs} {r : Bs} (h : numb b = some (q, r)) : recL q b = r :: recL q (b.drop (16 + r.length)) := by
  have h2 := (numb_lt h).2
  have h2 : 16 + r.length ≤ b.length := h2
  unfold recL
  obtain ⟨m, hm⟩ : ∃ m, b.length = m + 1 := ⟨b.length - 1, by omega⟩
  rw [hm]
  conv => lhs; unfold recF
  rw [h]
  show (if q = q then _ else _) = _
  rw [if_pos rfl]
  exact congrArg _ (recF_more _ _ _ _ (by rw [List.length_drop]; omega) (Nat.le_refl _))
/-- What was joined is there again, with whatever that is no record behind it. -/
theorem recL_join {q : Nat} (hq : q < 2 ^ 64) : ∀ (l : List Bs) (t : Bs), (∀ x ∈ l, x.length ≤ 65528) → recL q t = [] → recL q (joinR q l ++ t) = l
  | [], t, _, ht => by rw [joinR_nil, List.nil_append]; exact ht
  | x :: l, t, h, ht => by
    rw [joinR_cons, List.append_assoc, recL_some (numb_join hq (h x (by simp)))]
    rw [show (numbF q x ++ (joinR q l ++ t)).drop (16 + x.length) = joinR q l ++ t from List.drop_left' (numbF_length q x)]
    rw [recL_join hq l t (fun y hy => h y (by simp [hy])) ht]
theorem recL_nil (q : Nat) : recL q [] = [] := rfl
theorem lenR_recF : ∀ (f q : Nat) (b : Bs), lenR (recF f q b) ≤ b.length
  | 0, _, _ => Nat.zero_le _
  | f + 1, q, b => by
    unfold recF
    cases hn : numb b with
    | none => exact Nat.zero_le _
    | some x =>
      show lenR (if x.1 = q then _ else _) ≤ _
      split
      · have h2 := (numb_lt hn).2
        have := lenR_recF f q (b.drop (16 + x.2.length))
        rw [List.length_drop] at this
        rw [lenR_cons]; omega
      · exact Nat.zero_le _
theorem lenR_le (q : Nat) (b : Bs) : lenR (recL q b) ≤ b.length := lenR_recF _ _ _
theorem lenR_take (l : List Bs) (k : Nat) : lenR (l.take k) ≤ lenR l := by
  conv => rhs; rw [← List.take_append_drop k l, lenR_append]
  omega
theorem lenR_count (l : List Bs) : 16 * l.length ≤ lenR l := by
  induction l with
  | nil => exact Nat.le_refl _
  | cons x l ih => rw [lenR_cons, List.length_cons]; omega
/-- Record by record. -/
theorem rec_step {q : Nat} {b r : Bs} {k : Nat} (hd : recL q (b.drop (lenR ((recL q b).take k))) = (recL q b).drop k) (h : numb (b.drop (lenR ((recL q b).take k))) = some (q, r)) :
    (recL q b)[k]? = some r ∧ recL q (b.drop (lenR ((recL q b).take (k + 1)))) = (recL q b).drop (k + 1) := by
  rw [recL_some h] at hd
  have h1 : (recL q b)[k]? = some r := by
    have := congrArg (fun l => l[0]?) hd
    rw [List.getElem?_drop] at this
    simpa using this.symm
  refine ⟨h1, ?_⟩
  rw [lenR_snoc h1, ← List.drop_drop]
  have := congrArg List.tail hd
  rw [List.tail_cons, List.tail_drop] at this
  exact this
theorem rec_end {q : Nat} {b : Bs} {k : Nat} (hk : k ≤ (recL q b).length) (hd : recL q (b.drop (lenR ((recL q b).take k))) = (recL q b).drop k) (h : ∀ r, numb (b.drop (lenR ((recL q b).take k))) ≠ some (q, r)) : k = (recL q b).length := by
  have e : recL q (b.drop (lenR ((recL q b).take k))) = [] := by
    cases hn : numb (b.drop (lenR ((recL q b).take k))) with
    | none => exact recL_none hn
    | some x =>
      obtain ⟨n, r⟩ := x
      refine recL_other hn fun e => ?_
      have e : n = q := e
      subst e
      exact h r hn
  rw [e] at hd
  have := congrArg List.length hd
  rw [List.length_drop, List.length_nil] at this
  omega

/-- Steps, one behind the other, till one fails: its error, how many were done. -/
def inO (E : Nat → Nat) : Nat → Nat → Nat × Nat
  | _, 0 => (0, 0)
  | k, n + 1 => if E k = 0 then ((inO E (k + 1) n).1, (inO E (k + 1) n).2 + 1) else (E k, 1)

/-- What is done to a journal's disk. -/
def openO (d : DDk) : Option (Nat × Bs) := newL [d.readL 0, d.readL 1]
def openR (d : DDk) : List Bs := recL (seqO (openO d)) (d.readL 2)
def leaveE (d : DDk) (n : Int) : Nat := if cutE d 2 n = 0 then syncE (cutD d 2 n) 2 else cutE d 2 n
def leaveD (d : DDk) (n : Int) : DDk := if cutE d 2 n = 0 then syncD (cutD d 2 n) 2 else cutD d 2 n
def openE (d : DDk) : Nat := if d.dead then 10 else if lenR (openR d) < (d.readL 2).length then leaveE d (lenR (openR d) : Nat) else 0
def openD (d : DDk) : DDk := if d.dead then d else if lenR (openR d) < (d.readL 2).length then leaveD d (lenR (openR d) : Nat) else d
/-- A state in the place of all, step by step: the disk, the error, the number, how much there may be. -/
def slotI (q : Nat) : Int := ((q + 1) % 2 : Nat)
def ck1 (d : DDk) (q : Nat) : DDk := cutD d (slotI q) 0
def ck2 (d : DDk) (q : Nat) (b : Bs) : DDk := appendD (ck1 d q) (slotI q) (numbF (q + 1) b)
def ck3 (d : DDk) (q : Nat) (b : Bs) : DDk := syncD (ck2 d q b) (slotI q)
def ckD (d : DDk) (q : Nat) (b : Bs) : Nat → DDk
  | 0 => d
  | 1 => ck1 d q
  | 2 => ck2 d q b
  | 3 => ck3 d q b
  | _ => leaveD (ck3 d q b) 0
def ckE (d : DDk) (q : Nat) (b : Bs) : Nat → Nat
  | 0 => cutE d (slotI q) 0
  | 1 => appendE (ck1 d q) (slotI q) (numbF (q + 1) b)
  | 2 => syncE (ck2 d q b) (slotI q)
  | _ => leaveE (ck3 d q b) 0
def ckQ (q : Nat) : Nat → Nat
  | 0 => q
  | 1 => q
  | 2 => q
  | 3 => q
  | _ => q + 1
def ckN (n l : Nat) : Nat → Nat
  | 0 => n
  | 1 => n + 1
  | 2 => n + 1 + l
  | 3 => n + 1 + l
  | _ => n + 1 + l + 1
theorem ckN_le (n l : Nat) (i : Nat) : ckN n l i ≤ n + 2 + l := by unfold ckN; split <;> omega
theorem inO_four (E : Nat → Nat) : inO E 0 4 = if E 0 ≠ 0 then (E 0, 1) else if E 1 ≠ 0 then (E 1, 2) else if E 2 ≠ 0 then (E 2, 3) else (E 3, 4) := by
  by_cases h0 : E 0 = 0
  · by_cases h1 : E 1 = 0
    · by_cases h2 : E 2 = 0
      · by_cases h3 : E 3 = 0
        · simp [inO, h0, h1, h2, h3]
        · simp [inO, h0, h1, h2, h3]
      · simp [inO, h0, h1, h2]
    · simp [inO, h0, h1]
  · simp [inO, h0]
def cpE (d : DDk) (q : Nat) (b : Bs) : Nat := (inO (ckE d q b) 0 4).1
def cpD (d : DDk) (q : Nat) (b : Bs) : DDk := ckD d q b (inO (ckE d q b) 0 4).2
def cpQ (d : DDk) (q : Nat) (b : Bs) : Nat := ckQ q (inO (ckE d q b) 0 4).2
end Go.Proofs.Ytojkifcclgecoaa
