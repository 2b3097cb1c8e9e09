/-
  The contract of tree.Same.
-/
import Derived.Test.YtedcaodbcognjaaDoorTPairs
import Derived.Test.YtedcaodbcognjaaDoorConsists
import Derived.Test.YtedcaodbcognjaaDoorTRound
namespace Go.Proofs.YtedcaodbcognjaaDoor
open Go Go.RowKit Go.Shelf Go.Proofs
attribute [local go_sem] Oper.semAt_some

def okTo (a b : List FX) (k : Nat) : Bool := ((pairsX a b).take k).all (okPair (flsX a) (flsX b))
theorem okTo_snoc (a b : List FX) (k : Nat) (x : Option Nat × Option Nat) (hx : (pairsX a b)[k]? = some x) (h : okTo a b k = true) : okTo a b (k + 1) = okPair (flsX a) (flsX b) x := by
  unfold okTo at h ⊢
  rw [List.take_add_one, hx, List.all_append, h]; simp
theorem beq_quiet (xa xb : FX) (r : Bool) {W : World} (h : (Lib.bytesOf (numsB xa.b) == Lib.bytesOf (numsB xb.b)) = r) (q1 : BytesAt W xa.A xa.b) (q2 : BytesAt W xb.A xb.b) (m k n : Nat) :
    (Fence.wide.depth.isSome = true → 1 ≤ m) ∧ CallsIn Fence.wide k Tryd.prog 39 #[.slice xa.A xa.b.length xa.c, .slice xb.A xb.b.length xb.c] (W.drewN n) fun e w'' => e = .returned (.bool r) ∧ ∃ n, w'' = W.drewN n := by
  refine ⟨fun h => absurd h (by decide), CallsIn.quiet_of_same (callsIn_wide.2 ?_)⟩
  rw [← h]
  exact Tryd.bytes_Equal_all xa.A xb.A xa.b.length xa.c xb.b.length xb.c (numsB xa.b) (numsB xb.b) _ (numsB_length _) (numsB_length _) q1 q2
theorem keepsO_drewN (W : World) (n : Nat) : KeepsOthers W (W.drewN n) := ⟨Nat.le_refl _, fun _ _ h _ => h⟩
theorem boxed_drewN {W : World} {b t : Nat} {v : Value} (h : Boxed W b t v) {n : Nat} : Boxed (W.drewN n) b t v := h
theorem okTo_all (a b : List FX) : okTo a b (pairsX a b).length = decide (flsX a = flsX b) := by
  unfold okTo
  rw [List.take_length]
  exact pairsN_all _ _ _ _ 0 0 rfl rfl
theorem okTo_false (a b : List FX) (k : Nat) (h : okTo a b k = false) : decide (flsX a = flsX b) = false := by
  rw [← okTo_all]
  unfold okTo at h ⊢
  rw [List.take_length]
  cases e : (pairsX a b).all (okPair (flsX a) (flsX b)) with
  | false => rfl
  | true =>
    have := List.all_eq_true.1 e
    rw [← h]
    symm
    exact List.all_eq_true.2 fun x hx => this x (List.mem_of_mem_take hx)

set_option maxRecDepth 100000 in
set_option maxHeartbeats 4000000 in
theorem same_any (a b : List FX) (A B : Option Addr) (c d : Nat) (w : World) (hla : a.length ≤ 100000) (hlb : b.length ≤ 100000) (ha : TreeAt w A c a) (hb : TreeAt w B d b) :
    Calls Tryd.prog 19 #[.slice A a.length c, .slice B b.length d] w fun e w' => e = .returned (.bool (decide (flsX a = flsX b))) ∧ Below w.heap.size w w' := by
  refine (callsIn_wide (n := 3)).1 ?_
  generalize 3 = n
  refine callsIn_of_wp_marks Tryd.func19 rfl trivial ?_ rfl
  simp only [Tryd.ntmps19, List.size_toArray, List.length_cons, List.length_nil, Nat.reduceAdd, Nat.reduceSub, Array.replicate_succ, Array.replicate_zero, List.push_toArray, List.append_toArray, List.nil_append, List.cons_append]
  gi_wp2_with (refine wide_call (pairs_any A B _ _ _ _ _) ?_; rintro e w' ⟨rfl, rfl⟩)
  obtain ⟨W0, hW0⟩ : ∃ W0, ((w.alloc (.cells #[.bool false] 4)).alloc (.cells #[.slice A a.length c] 23)).alloc (.cells #[.slice B b.length d] 23) = W0 := ⟨_, rfl⟩
  have hs0 : W0.heap.size = w.heap.size + 3 := by rw [← hW0]; simp
  have x0 : Boxed W0 w.heap.size 4 (.bool false) := by rw [← hW0]; exact ((Boxed.new w _ _).alloc _).alloc _
  have x1 : Boxed W0 (w.heap.size + 1) 23 (.slice A a.length c) := by
    rw [← hW0]; have := Boxed.new (w.alloc (.cells #[.bool false] 4)) 23 (.slice A a.length c); rw [World.size_alloc] at this; exact this.alloc _
  have x2 : Boxed W0 (w.heap.size + 2) 23 (.slice B b.length d) := by
    rw [← hW0]; have := Boxed.new ((w.alloc (.cells #[.bool false] 4)).alloc (.cells #[.slice A a.length c] 23)) 23 (.slice B b.length d); simp only [World.size_alloc] at this; exact this
  have hB0 : Below w.heap.size w W0 := by
    rw [← hW0]; exact (((Below.refl _ w).alloc (Nat.le_refl _) _).alloc (by simp) _).alloc (by simp; omega) _
  rw [hW0]
  clear hW0
  have hK : ∀ k, KeepTwo A B a b k → k < w.heap.size := by
    rintro k (⟨hn, a', e, rfl⟩ | ⟨hn, a', e, rfl⟩)
    · obtain ⟨g, o, rfl, hr⟩ := ha.row hn
      cases e
      obtain ⟨x, hx⟩ : ∃ x, a[0]? = some x := ⟨_, List.getElem?_eq_getElem hn⟩
      exact World.block_lt_of_cell? w (a := ⟨g, o + 0 * 2, none⟩) (hr 0 x hx).1
    · obtain ⟨g, o, rfl, hr⟩ := hb.row hn
      cases e
      obtain ⟨x, hx⟩ : ∃ x, b[0]? = some x := ⟨_, List.getElem?_eq_getElem hn⟩
      exact World.block_lt_of_cell? w (a := ⟨g, o + 0 * 2, none⟩) (hr 0 x hx).1
  have hnb : ¬ KeepTwo A B a b w.heap.size := fun h => absurd (hK _ h) (Nat.lt_irrefl _)
  refine wpIn_rangeList rfl (fun h => absurd h (by decide)) (gf := 53) (lb := #[.pointer (some ⟨w.heap.size + 1, 0, none⟩), .pointer (some ⟨w.heap.size + 2, 0, none⟩)]) rfl trivial (enters_of Tryd.func53 (by kernel_rfl) rfl)
    (pairs_list _ (w.heap.size + 1) (w.heap.size + 2) A B c d a b W0 hla hlb ha.cap hb.cap ha.capm hb.capm x1 x2 (ha.below hB0).row (hb.below hB0).row) KeepsB.trans (keepsB_b (fun k h => by have := hK k h; omega)) (fun r h => h.elim) (Below.refl _ _) (fun _ => rfl)
    (fun k W => Boxed W w.heap.size 4 (.bool false) ∧ Hid (okTo a b k = true) ∧ Below w.heap.size w W)
    (fun c k W => Boxed W w.heap.size 4 (.bool false) ∧ (c = .ret ∧ okTo a b k = false) ∧ Below w.heap.size w W)
    (OwnTo.and (OwnTo.block (o := fun _ => .cells #[.bool false] 4) (by omega) (fun h => h)) (OwnTo.and (OwnTo.pure _ _ _) (OwnTo.below (Nat.le_refl _) (by omega) (fun r h => h.elim))))
    (fun c => OwnTo.and (OwnTo.block (o := fun _ => .cells #[.bool false] 4) (by omega) (fun h => h)) (OwnTo.and (OwnTo.pure _ _ _) (OwnTo.below (Nat.le_refl _) (by omega) (fun r h => h.elim))))
    ⟨x0, rfl, hB0⟩
    (fun x a' _ => a' = { tmps := #[.slice A a.length c, .slice B b.length d, undef, undef, .pointer (some ⟨w.heap.size, 0, none⟩), ptrV A x.1, ptrV B x.2, .slice A a.length c, .slice B b.length d, .func (.func 53) #[] #[.pointer (some ⟨w.heap.size + 1, 0, none⟩), .pointer (some ⟨w.heap.size + 2, 0, none⟩)], ptrV A x.1, ptrV B x.2, undef, undef, undef, undef, undef, undef, undef, undef, undef, undef, undef, undef, undef, undef, undef, undef, undef, undef], defers := [] }) (fun _ _ _ _ _ _ hs _ _ => hs) ?assign ?body ?done ?stop
  case assign =>
    intro l k x W K hi hK2
    simp only [encP]
    gi_wp2
    exact hK2 _ _ (KeepsFrom.refl _ _) (KeepsB.refl _ _) hi rfl
  case body =>
    have mixed : Tryd.prog.follows .mixedOrders = true := by kernel_rfl
    rintro l k x a' W hl _ ⟨y0, hall, hB⟩ rfl hx
    have c0 := y0.cell
    have f0 := y0.frozen
    have hin := pairsN_in (flsX a) (flsX b) _ _ 0 0 rfl rfl x (List.mem_of_getElem? hx)
    have hst := okTo_snoc a b k x hx hall.out
    have HST := Lib.hid hst; clear hst
    have HX := Lib.hid hx; clear hx
    rcases x with ⟨_ | i, _ | j⟩
    · exact hin.elim
    · have hj : j < b.length := by have : j < (flsX b).length := hin; rwa [flsX_length] at this
      clear hin
      obtain ⟨g, o, rfl, hr⟩ := hb.row (by omega)
      clear hr
      simp only [ptrV, Option.map_some]
      gi_wp2
      have hwf : Fence.wide.fn 39 := trivial
      refine wpIn_round_quiet_lit rfl mixed (by kernel_rfl) (by kernel_rfl) ?_
      repeat (gi_big_quiet_step (fail))
      refine wpQuietIn_nil ?_
      intro _ hw'
      obtain ⟨nq, hw''⟩ := hw'
      subst hw''
      gi_wp2
      exact ⟨((keepsO_drewN W _).trans (KeepsOthers.setCell _ _ _)).from _, (boxed_drewN y0).set _, ⟨rfl, HST.out⟩, (below_drewN0 hB _).setCell (p := ⟨w.heap.size, 0, none⟩) (Nat.le_refl _) _⟩
    · have hi : i < a.length := by have : i < (flsX a).length := hin; rwa [flsX_length] at this
      clear hin
      obtain ⟨g, o, rfl, hr⟩ := ha.row (by omega)
      clear hr
      simp only [ptrV, Option.map_some]
      gi_wp2
      have hwf : Fence.wide.fn 39 := trivial
      refine wpIn_round_quiet_lit rfl mixed (by kernel_rfl) (by kernel_rfl) ?_
      repeat (gi_big_quiet_step (fail))
      refine wpQuietIn_nil ?_
      intro _ hw'
      obtain ⟨nq, hw''⟩ := hw'
      subst hw''
      gi_wp2
      exact ⟨((keepsO_drewN W _).trans (KeepsOthers.setCell _ _ _)).from _, (boxed_drewN y0).set _, ⟨rfl, HST.out⟩, (below_drewN0 hB _).setCell (p := ⟨w.heap.size, 0, none⟩) (Nat.le_refl _) _⟩
    · have hij : i < a.length ∧ j < b.length := by
        have : i < (flsX a).length ∧ j < (flsX b).length := hin
        rwa [flsX_length, flsX_length] at this
      clear hin
      obtain ⟨xa, hxa⟩ : ∃ xa, a[i]? = some xa := ⟨_, List.getElem?_eq_getElem hij.1⟩
      obtain ⟨xb, hxb⟩ : ∃ xb, b[j]? = some xb := ⟨_, List.getElem?_eq_getElem hij.2⟩
      have haW := ha.below (w' := W) (hB.mono (Nat.le_refl _))
      have hbW := hb.below (w' := W) (hB.mono (Nat.le_refl _))
      obtain ⟨g, o, rfl, hr⟩ := haW.row (by omega)
      obtain ⟨g', o', rfl, hr'⟩ := hbW.row (by omega)
      obtain ⟨_, c1⟩ := hr i xa hxa
      obtain ⟨_, c2⟩ := hr' j xb hxb
      have q1 := haW.files xa (List.mem_of_getElem? hxa)
      have q2 := hbW.files xb (List.mem_of_getElem? hxb)
      have hok : okPair (flsX a) (flsX b) (some i, some j) = (Lib.bytesOf (numsB xa.b) == Lib.bytesOf (numsB xb.b)) := by
        simp only [okPair, flsX_getElem?, hxa, hxb, Option.map_some, bytesOf_numsB]
        rfl
      have HOK := Lib.hid (HST.out.trans hok); clear hok HST
      have Q1 := Lib.hid q1; clear q1
      have Q2 := Lib.hid q2; clear q2
      clear hr hr' hxa hxb haW hbW
      simp only [ptrV, Option.map_some]
      cases hq : (Lib.bytesOf (numsB xa.b) == Lib.bytesOf (numsB xb.b)) with
      | true =>
        rw [hq] at HOK
        have HQ := Lib.hid hq; clear hq
        gi_wp2
        have hwf : Fence.wide.fn 39 := trivial
        refine wpIn_round_quiet_lit rfl mixed (by kernel_rfl) (by kernel_rfl) ?_
        repeat (gi_big_quiet_step (exact beq_quiet xa xb _ HQ.out Q1.out Q2.out _ _ _))
        refine wpQuietIn_nil ?_
        intro _ hw'
        obtain ⟨nq, hw''⟩ := hw'
        subst hw''
        gi_wp2
        exact ⟨(keepsO_drewN W _).from _, ⟨Nat.le_refl _, fun _ _ _ => rfl⟩, boxed_drewN y0, HOK.out, below_drewN0 hB _⟩
      | false =>
        rw [hq] at HOK
        have HQ := Lib.hid hq; clear hq
        gi_wp2
        have hwf : Fence.wide.fn 39 := trivial
        refine wpIn_round_quiet_lit rfl mixed (by kernel_rfl) (by kernel_rfl) ?_
        repeat (gi_big_quiet_step (exact beq_quiet xa xb _ HQ.out Q1.out Q2.out _ _ _))
        refine wpQuietIn_nil ?_
        intro _ hw'
        obtain ⟨nq, hw''⟩ := hw'
        subst hw''
        gi_wp2
        exact ⟨((keepsO_drewN W _).trans (KeepsOthers.setCell _ _ _)).from _, (boxed_drewN y0).set _, ⟨rfl, HOK.out⟩, (below_drewN0 hB _).setCell (p := ⟨w.heap.size, 0, none⟩) (Nat.le_refl _) _⟩
  case done =>
    rintro D W hD ⟨y0, hall, hB⟩ hK'
    have c1 := y0.cell
    have f1 := y0.frozen
    gi_wp2
    have hK2 := (KeepsOthers.setCell W ⟨w.heap.size, 0, none⟩ (.bool true)).same D _ hK' rfl
    have y2 : Boxed ((W.setCell ⟨w.heap.size, 0, none⟩ (.bool true)).putObj D (.deferred none)) w.heap.size 4 (.bool true) := (y0.set _).kept (grownBy_putObj' _ D _) (by simp; omega)
    have c5 := y2.cell
    refine ⟨by simp, .inl ⟨_, _, rfl, run_takeDeferred hK2, ?_⟩⟩
    refine ⟨.bool true, by simp [results, Tryd.f19, go_sem, c5], ret_bool ?_, ?_⟩
    · rw [← okTo_all a b]; exact hall.out.symm
    · exact (hB.setCell (p := ⟨w.heap.size, 0, none⟩) (Nat.le_refl _) _).trans (belowK_b (w := w) (Nat.le_refl _) _ D _ _ (by omega) hK2 rfl rfl)
  case stop =>
    rintro D c k W hD hk ⟨y1, ⟨rfl, hall⟩, hB⟩ hK'
    have c1 := y1.cell
    gi_wp2
    have y2 : Boxed (W.putObj D (.deferred none)) w.heap.size 4 (.bool false) := y1.kept (grownBy_putObj' _ D _) (by simp; omega)
    have c5 := y2.cell
    refine ⟨by simp, .inl ⟨_, _, rfl, run_takeDeferred hK', ?_⟩⟩
    refine ⟨.bool false, by simp [results, Tryd.f19, go_sem, c5], ret_bool ?_, ?_⟩
    · exact (okTo_false a b k hall).symm
    · exact hB.trans (belowK_b (w := w) (Nat.le_refl _) _ D _ _ (by omega) hK' rfl rfl)
end Go.Proofs.YtedcaodbcognjaaDoor
