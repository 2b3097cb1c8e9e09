/-
  What the chapter's example fixes: known.
-/
import Derived.Test.YtojkifcclgecoaaFrRef
import Derived.Lib.SlBytesConst
namespace Go.Proofs.Ytojkifcclgecoaa
open Go Go.RowKit Go.Shelf Go.Proofs

/-- append, where the length is spelt otherwise. -/
theorem wpList_appN {base : Nat} {w : World} {v : Value} {l : Bs} {A : Option Addr} {c n : Nat} {b : Bs} {ops : Array Oper} {rest : List Oper} {o : Oper} {a : Act} {Q : Exit → Act → World → Prop} (hgd : o.guard = none) (s x : Operand)
    (ho : o.op = .call { callee := .builtin .append, args := #[s, x], argTypes := #[29, 29] }) (hs : a.eval s = v) (hown : OB base w v l)
    (hx : a.eval x = .slice A n c) (hn : b.length = n) (hb : SlAt w A c b) (hlen : l.length + b.length ≤ 1000000) (hbase : base ≤ w.heap.size)
    (h : ∀ v' w', OB base w' v' (l ++ b) → w.grownBy w' v.ownBlock → wpList Try.prog ops Q rest (a.put o.dst v') w') : wpList Try.prog ops Q (o :: rest) a w := by
  subst hn
  exact wpList_appB hgd s x ho hs hown hx hb hlen hbase h

theorem known_len : (joinF [[97, 98], [99, 100]]).length = 20 := by rw [join_cons, join_cons, join_nil]; simp [encF_length]
theorem known_cut : (joinF [[97, 98], [99, 100]]).take 15 = joinF [[97, 98]] ++ (encF [99, 100]).take 5 := by
  rw [join_cons, join_cons, join_cons, join_nil, List.append_nil, List.append_nil, List.take_append, encF_length]
  rw [List.take_of_length_le (by rw [encF_length]; decide)]
  rfl
theorem known_all : allB ((joinF [[97, 98], [99, 100]]).take 15) = [[97, 98]] := by
  rw [known_cut]
  exact all_join _ _ (fun x hx => by rw [List.mem_singleton] at hx; subst hx; decide) (next_short (by rw [List.length_take]; omega))
theorem known_lenF : lenF [[97, 98]] = 10 := by rw [lenF_cons]; unfold lenF; rw [join_nil]; rfl

end Go.Proofs.Ytojkifcclgecoaa
