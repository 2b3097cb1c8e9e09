/-
  One change more in a row; what a difference is made of, step by step.
-/
import Derived.Test.YtedcaodbcognjaaDoorTRefE
namespace Go.Proofs.YtedcaodbcognjaaDoor
open Go Go.RowKit Go.Shelf Go.Proofs
attribute [local go_sem] Oper.semAt_some

/-- One change more in a row of the call's own. -/
theorem wp_append_delta {o : Oper} {a : Act} {w : World} {K : Act → World → Prop} {Q : Exit → Act → World → Prop} (s y : Operand)
    (ho : o.op = .call { callee := .builtin .append, args := #[s, y], argTypes := #[24, 24] })
    (base : Nat) (v : Value) (l : List DX) (x : DX) (g c : Nat) (hs : a.eval s = v) (hown : RowD base w v l) (hx : a.eval y = .slice (some ⟨g, 0, none⟩) 1 c) (hb : BoxD w g x) (hl : l.length ≤ 1000000) (hbase : base ≤ w.heap.size)
    (h : ∀ v' w', RowD base w' v' (l ++ [x]) → w.grownBy w' v.ownBlock → K (a.put o.dst v') w') : Oper.wp Tryd.prog o a w K Q := by
  obtain ⟨i0, hi, hz0, hz1, hz2⟩ := info_parts delta_info
  refine wp_append_own w s y 24 ho base 39 i0 (.agg #[.int .i64 0, .string ⟨#[]⟩, .slice none 0 0]) 3 48 Tryd.underlying24 hi hz0 hz1 hz2 rfl (by decide) v l.length (dcells l) hs hown ⟨g, 0, none⟩ 1 c x.cs hx rfl ?_ ?_ (by unfold maxLen; omega) (by omega) hbase fun v' w' h1 h2 _ => h v' w' ?_ h2
  · intro j u hu
    rw [Go.WideShapes.add_plain, Nat.zero_add]
    match j, hu with
    | 0, hu => obtain rfl : Value.int .i64 x.k = u := by simpa [DX.cs] using hu
               exact hb.c0
    | 1, hu => obtain rfl : Value.string x.p = u := by simpa [DX.cs] using hu
               exact hb.c1
    | 2, hu => obtain rfl : Value.slice x.A x.b.length x.c = u := by simpa [DX.cs] using hu
               exact hb.c2
    | j + 3, hu => simp [DX.cs] at hu
  · intro u hu
    simp only [DX.cs, List.mem_cons, List.mem_nil_iff, or_false] at hu
    rcases hu with rfl | rfl | rfl <;> rfl
  · show World.ownsRow _ _ _ _ _ _ _
    rw [List.length_append, dcells_append]
    have e : dcells [x] = x.cs := by unfold dcells; simp
    rw [e]; exact h1
theorem wpList_append_delta {ops : Array Oper} {rest : List Oper} {o : Oper} {a : Act} {w : World} {Q : Exit → Act → World → Prop} (hgd : o.guard = none) (s y : Operand)
    (ho : o.op = .call { callee := .builtin .append, args := #[s, y], argTypes := #[24, 24] })
    (base : Nat) (v : Value) (l : List DX) (x : DX) (g c : Nat) (hs : a.eval s = v) (hown : RowD base w v l) (hx : a.eval y = .slice (some ⟨g, 0, none⟩) 1 c) (hb : BoxD w g x) (hl : l.length ≤ 1000000) (hbase : base ≤ w.heap.size)
    (h : ∀ v' w', RowD base w' v' (l ++ [x]) → w.grownBy w' v.ownBlock → wpList Tryd.prog ops Q rest (a.put o.dst v') w') : wpList Tryd.prog ops Q (o :: rest) a w :=
  wpList_plain hgd fun _ hK => wp_append_delta s y ho base v l x g c hs hown hx hb hl hbase fun v' w' h2 h3 => hK _ _ (h v' w' h2 h3)
theorem step_append_delta {ops : Array Oper} {o : Oper} {a : Act} {w : World} {K : Act → World → Prop} {Q : Exit → Act → World → Prop} {E : Prop} (hgd : o.guard = none) (s y : Operand)
    (ho : o.op = .call { callee := .builtin .append, args := #[s, y], argTypes := #[24, 24] })
    (base : Nat) (v : Value) (l : List DX) (x : DX) (g c : Nat) (hs : a.eval s = v) (hown : RowD base w v l) (hx : a.eval y = .slice (some ⟨g, 0, none⟩) 1 c) (hb : BoxD w g x) (hl : l.length ≤ 1000000) (hbase : base ≤ w.heap.size)
    (h : ∀ v' w', RowD base w' v' (l ++ [x]) → w.grownBy w' v.ownBlock → K (a.put o.dst v') w') : if Region.wanted o (yielded ops a.tmps) = true then Oper.wp Tryd.prog o a w K Q else E := by
  rw [if_pos (by simp [Region.wanted, hgd])]
  exact wp_append_delta s y ho base v l x g c hs hown hx hb hl hbase h
theorem RowD.slice {base : Nat} {w : World} {v : Value} {l : List DX} (h : RowD base w v l) : ∃ A c, v = .slice A l.length c := by
  have hown : w.ownsRow base 39 3 v l.length (dcells l) := h
  rcases hown.2 with ⟨rfl, h0⟩ | ⟨g, cap, cur, rfl, _⟩
  · exact ⟨none, 0, by rw [h0]⟩
  · exact ⟨_, _, rfl⟩
theorem RowD.below {base : Nat} {w w' : World} {v : Value} {l : List DX} (h : RowD base w v l) (hb : Below w.heap.size w w') : RowD base w' v l := World.ownsRow.kept h (grownN hb none) (by cases v.ownBlock <;> simp)

/-- Where the document's Diff stands: at i of the one, at k of the other one. -/
structure DInv (a b : List FX) (w : World) (i k : Nat) (outs : List DX) : Prop where
  eq : outs.map DX.dl ++ diffT ((flsX a).drop i) ((flsX b).drop k) = diffT (flsX a) (flsX b)
  len : outs.length ≤ i + k
  bytes : ∀ x ∈ outs, BytesAt w x.A x.b
theorem fls_drop {a : List FX} {i : Nat} {x : FX} (hx : a[i]? = some x) : (flsX a).drop i = x.fl :: (flsX a).drop (i + 1) := by
  have h : (flsX a)[i]? = some x.fl := by rw [flsX_getElem?, hx]; rfl
  obtain ⟨hl, e⟩ := List.getElem?_eq_some_iff.1 h
  rw [List.drop_eq_getElem_cons hl, e]
theorem fls_over {a : List FX} {i : Nat} (h : a.length ≤ i) : (flsX a).drop i = [] := List.drop_of_length_le (by rw [flsX_length]; exact h)
theorem DInv.push {a b : List FX} {w : World} {i k i' k' : Nat} {outs : List DX} {d : DX} (h : DInv a b w i k outs) (hd : diffT ((flsX a).drop i) ((flsX b).drop k) = d.dl :: diffT ((flsX a).drop i') ((flsX b).drop k')) (hl : i + k + 1 ≤ i' + k') (hb : BytesAt w d.A d.b) : DInv a b w i' k' (outs ++ [d]) := by
  refine ⟨?_, by rw [List.length_append, List.length_singleton]; have := h.len; omega, fun x hx => ?_⟩
  · rw [List.map_append, List.append_assoc, ← h.eq, hd]; rfl
  · rcases List.mem_append.1 hx with hx | hx
    · exact h.bytes x hx
    · obtain rfl := List.mem_singleton.1 hx; exact hb
theorem DInv.pass {a b : List FX} {w : World} {i k i' k' : Nat} {outs : List DX} (h : DInv a b w i k outs) (hd : diffT ((flsX a).drop i) ((flsX b).drop k) = diffT ((flsX a).drop i') ((flsX b).drop k')) (hl : i + k ≤ i' + k') : DInv a b w i' k' outs :=
  ⟨by rw [← h.eq, hd], by have := h.len; omega, h.bytes⟩
theorem dstep_end {a b : List FX} {i k : Nat} {x : FX} (hx : a[i]? = some x) (hk : b.length ≤ k) : diffT ((flsX a).drop i) ((flsX b).drop k) = ⟨3, x.p.data.toList, []⟩ :: diffT ((flsX a).drop (i + 1)) ((flsX b).drop k) := by
  rw [fls_drop hx, fls_over hk, diffT]; rfl
theorem dstep_del {a b : List FX} {i k : Nat} {x y : FX} (hx : a[i]? = some x) (hy : b[k]? = some y) (hlt : ltB x.p.data.toList y.p.data.toList = true) : diffT ((flsX a).drop i) ((flsX b).drop k) = ⟨3, x.p.data.toList, []⟩ :: diffT ((flsX a).drop (i + 1)) ((flsX b).drop k) := by
  rw [fls_drop hx, fls_drop hy, diffT]
  rw [if_neg (by show ¬ (x.p.data.toList == y.p.data.toList) = true; rw [beq_eq_false_iff_ne.2 (ltB_ne _ _ hlt)]; decide), if_pos (show ltB x.fl.1 y.fl.1 = true from hlt)]; rfl
theorem dstep_same {a b : List FX} {i k : Nat} {x y : FX} (hx : a[i]? = some x) (hy : b[k]? = some y) (he : (x.p.toList == y.p.toList) = true) (hb : (x.b == y.b) = true) : diffT ((flsX a).drop i) ((flsX b).drop k) = diffT ((flsX a).drop (i + 1)) ((flsX b).drop (k + 1)) := by
  rw [ByteArray.toList_eq, ByteArray.toList_eq] at he
  rw [fls_drop hx, fls_drop hy, diffT, if_pos (show (x.fl.1 == y.fl.1) = true from he), if_pos (show (x.fl.2 == y.fl.2) = true from hb)]
theorem dstep_mod {a b : List FX} {i k : Nat} {x y : FX} (hx : a[i]? = some x) (hy : b[k]? = some y) (he : (x.p.toList == y.p.toList) = true) (hb : (x.b == y.b) = false) : diffT ((flsX a).drop i) ((flsX b).drop k) = ⟨2, y.p.data.toList, y.b⟩ :: diffT ((flsX a).drop (i + 1)) ((flsX b).drop (k + 1)) := by
  rw [ByteArray.toList_eq, ByteArray.toList_eq] at he
  rw [fls_drop hx, fls_drop hy, diffT, if_pos (show (x.fl.1 == y.fl.1) = true from he), if_neg (by show ¬ (x.b == y.b) = true; rw [hb]; decide)]; rfl
theorem dstep_add {a b : List FX} {i k : Nat} {x y : FX} (hx : a[i]? = some x) (hy : b[k]? = some y) (he : (x.p.toList == y.p.toList) = false) (hlt : ltB x.p.data.toList y.p.data.toList = false) : diffT ((flsX a).drop i) ((flsX b).drop k) = ⟨1, y.p.data.toList, y.b⟩ :: diffT ((flsX a).drop i) ((flsX b).drop (k + 1)) := by
  rw [ByteArray.toList_eq, ByteArray.toList_eq] at he
  rw [fls_drop hx, fls_drop hy, diffT]
  rw [if_neg (by show ¬ (x.p.data.toList == y.p.data.toList) = true; rw [he]; decide), if_neg (by show ¬ ltB x.p.data.toList y.p.data.toList = true; rw [hlt]; decide)]; rfl
theorem dstep_last {a b : List FX} {i k : Nat} {y : FX} (hi : a.length ≤ i) (hy : b[k]? = some y) : diffT ((flsX a).drop i) ((flsX b).drop k) = ⟨1, y.p.data.toList, y.b⟩ :: diffT ((flsX a).drop i) ((flsX b).drop (k + 1)) := by
  rw [fls_over hi, fls_drop hy, diffT]; rfl
theorem DInv.done {a b : List FX} {w : World} {i k : Nat} {outs : List DX} (h : DInv a b w i k outs) (hi : a.length ≤ i) (hk : b.length ≤ k) : outs.map DX.dl = diffT (flsX a) (flsX b) := by
  have := h.eq
  rw [fls_over hi, fls_over hk, diffT, List.append_nil] at this
  exact this
end Go.Proofs.YtedcaodbcognjaaDoor
