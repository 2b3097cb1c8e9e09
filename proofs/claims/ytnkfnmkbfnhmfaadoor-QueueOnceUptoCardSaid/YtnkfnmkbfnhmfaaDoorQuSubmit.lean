/-
  The queue's Submit. (gen_qusubmit.py)
-/
import Derived.Test.YtnkfnmkbfnhmfaaDoorQuL
import Derived.BigQuiet
namespace Go.Proofs.YtnkfnmkbfnhmfaaDoor
open Go Go.RowKit Go.Shelf Go.Proofs Go.ChangeMaps Go.Maps Go.WideMaps
attribute [local go_sem] Oper.semAt_some

/-- What Submit answers. -/
def subE (n room : Nat) (R : List QX) (L : List AX) (x : QX) : Int :=
  if x.id < 1 ∨ x.l.length = 0 then 2 else if x.base < 0 ∨ (n : Int) < x.base then 7 else if hasA L x.id || waitsQ R x.id then 12 else if room ≤ R.length then 8 else 0
theorem DeltasAt.lowerQ {base base' : Nat} {w : World} {v : Value} {l : List DX} (h : DeltasAt base w v l) (hb : base' ≤ base) : DeltasAt base' w v l :=
  ⟨⟨h.own.1, h.own.2.imp (fun h => h) fun ⟨g, cap, cur, hv, hb', r⟩ => ⟨g, cap, cur, hv, Nat.le_trans hb hb', r⟩⟩, h.bod⟩
theorem small_dl {a b : List DX} (h : a.map DX.dl = b.map DX.dl) (hb : SmallD b) : SmallD a := by
  have hl : a.length = b.length := by have := congrArg List.length h; simpa using this
  refine ⟨by rw [hl]; exact hb.1, fun x hx => ?_⟩
  obtain ⟨i, hi⟩ := List.mem_iff_getElem?.1 hx
  have e1 : (a.map DX.dl)[i]? = some x.dl := by rw [List.getElem?_map, hi]; rfl
  rw [h, List.getElem?_map] at e1
  cases hb' : b[i]? with
  | none => rw [hb'] at e1; cases e1
  | some y =>
    rw [hb'] at e1
    have e2 : y.dl = x.dl := by simpa using e1
    obtain ⟨h1, h2⟩ := hb.2 y (List.mem_of_getElem? hb')
    have p1 : y.p.data.toList = x.p.data.toList := congrArg Dl.p e2
    have p2 : y.b = x.b := congrArg Dl.b e2
    have p3 : y.p.size = x.p.size := by rw [show y.p.size = y.p.data.toList.length from Array.length_toList.symm, show x.p.size = x.p.data.toList.length from Array.length_toList.symm, p1]
    exact ⟨by omega, by rw [← p2]; exact h2⟩
/-- The history stays where a queue's own turns. -/
theorem HistAt.turned {base : Nat} {w w' : World} {qb hb ab room : Nat} {v : Value} {R : List QX} {L : List AX} {n : Nat} {nm : List FX} {M : Bs → Nat} {nv cv : Value} {mb k : Nat} {D : DataW Unit} {H : List (Nat × List DX)} (h : HistAt base w hb n nm M nv cv mb k D H) (hq : QueueAt base w qb hb ab room v R L) (ht : QTurn (fun j => j = qb ∨ v.ownBlock = some j) w w') : HistAt base w' hb n nm M nv cv mb k D H := by
  have key : ∀ (j : Nat) (o : Obj), w.heap[j]? = some o → (∀ cur, o ≠ .cells cur 79 (0, 0)) → (∀ cur, o ≠ .cells cur 42 (0, 0)) → w'.heap[j]? = w.heap[j]? := fun j o ho h1 h2 => ht.block j (Array.getElem?_eq_some_iff.1 ho).1 (fun e => by
    rcases e with rfl | e
    · rw [hq.heap] at ho; cases ho; exact h1 _ rfl
    · obtain ⟨_, cur, hc⟩ := hq.waits.far e
      rw [hc] at ho; cases ho; exact h2 _ rfl)
  refine h.turnQ (fun g cur t hne hg => key g _ hg (fun cur' e => by cases e; exact hne.1 rfl) (fun cur' e => by cases e; exact hne.2 rfl)) (fun o ho => ?_)
  obtain ⟨es, ck, hm⟩ := h.map.block
  rw [key mb _ hm (fun _ e => by cases e) (fun _ e => by cases e)]
  exact ho
theorem belowQn {n : Nat} {a w : World} (h : Below n a w) (q : Nat) : Below n a (w.drewN q) := ⟨h.os, h.tape, h.output, h.size, h.block⟩
def SubPost (base : Nat) (w : World) (qb hb ab room : Nat) (v : Value) (R : List QX) (L : List AX) (n : Nat) (x : QX) (e : Ending) (w' : World) : Prop :=
  e = .returned (.int .i64 (subE n room R L x)) ∧
  ((subE n room R L x ≠ 0 ∧ Below w.heap.size w w') ∨
   (subE n room R L x = 0 ∧ ∃ v' y, QueueAt base w' qb hb ab room v' (R ++ [y]) L ∧ (y.id = x.id ∧ y.base = x.base ∧ y.l.map DX.dl = x.l.map DX.dl) ∧ QTurn (fun j => j = qb ∨ v.ownBlock = some j) w w' ∧ ∀ j, v'.ownBlock = some j → v.ownBlock = some j ∨ w.heap.size ≤ j))
set_option maxRecDepth 100000 in
set_option maxHeartbeats 16000000 in
theorem submit_any {base : Nat} {w : World} {qb hb ab room : Nat} {v : Value} {R : List QX} {L : List AX} {n : Nat} {nm : List FX} {M : Bs → Nat} {nv cv : Value} {mb k : Nat} {D : DataW Unit} {H : List (Nat × List DX)} (h : QueueAt base w qb hb ab room v R L) (hh : HistAt base w hb n nm M nv cv mb k D H) (x : QX) (hbw : base ≤ w.heap.size) (hx : DelsAt w x.A x.c x.l) (hs : SmallD x.l) (hR : R.length ≤ 100000)
    (hid : keyOf Tryd.prog 3 (.int .i64 x.id) = some (.int .i64 x.id)) :
    Calls Tryd.prog 13 #[.pointer (some ⟨qb, 0, none⟩), x.v] w (SubPost base w qb hb ab room v R L n x) := by
  obtain ⟨id, bs, A, c, l⟩ := x
  unfold QX.v
  simp only at hx hs hid
  obtain ⟨m, hm⟩ : ∃ m, l.length = m := ⟨_, rfl⟩
  obtain ⟨bx, hbx⟩ : ∃ b, w.heap.size = b := ⟨_, rfl⟩
  obtain ⟨W1, hW1⟩ : ∃ W, w.alloc (.cells #[.int .i64 id, .int .i64 bs, .slice A m c] 42) = W := ⟨_, rfl⟩
  have hb1 : Below w.heap.size w W1 := by rw [← hW1]; exact (Below.refl _ _).alloc (Nat.le_refl _) _
  have hn1 : ReqB W1 bx (.int .i64 id) (.int .i64 bs) (.slice A m c) := by unfold ReqB; rw [← hW1, ← hbx]; exact heap_alloc_new _ _
  have hq1 := h.below hb1
  have hh1 := hh.below hb1
  have HHI := Lib.hid (qhistory_any qb hb _ _ _ W1 hq1.heap)
  obtain ⟨x0, x1, x2, -, -, -⟩ := hn1.facts
  have HQ1 := Lib.hid hq1
  have HH1 := Lib.hid hh1
  have HB1 := Lib.hid hb1
  have HN1 := Lib.hid hn1
  have HW1 := Lib.hid hW1
  have HBX := Lib.hid hbx
  have HM := Lib.hid hm
  have HX := Lib.hid hx
  have HSM := Lib.hid hs
  have HSE := Lib.hid (show subE n room R L ⟨id, bs, A, c, l⟩ = if id < 1 ∨ m = 0 then 2 else if bs < 0 ∨ (n : Int) < bs then 7 else if hasA L id || waitsQ R id then 12 else if room ≤ R.length then 8 else 0 by unfold subE; simp only [hm])
  obtain ⟨se, hse⟩ : ∃ se, subE n room R L ⟨id, bs, A, c, l⟩ = se := ⟨_, rfl⟩
  have HSP := Lib.hid (show SubPost base w qb hb ab room v R L n ⟨id, bs, A, c, l⟩ = fun e w' => e = .returned (.int .i64 se) ∧ ((se ≠ 0 ∧ Below w.heap.size w w') ∨ (se = 0 ∧ ∃ v' y, QueueAt base w' qb hb ab room v' (R ++ [y]) L ∧ (y.id = id ∧ y.base = bs ∧ y.l.map DX.dl = l.map DX.dl) ∧ QTurn (fun j => j = qb ∨ v.ownBlock = some j) w w' ∧ ∀ j, v'.ownBlock = some j → v.ownBlock = some j ∨ w.heap.size ≤ j)) by funext e w'; unfold SubPost; rw [hse])
  rw [hse] at HSE
  rw [hm, HSP.out]
  have HH := Lib.hid hh
  have HQ := Lib.hid h
  clear h hh hb1 hn1 hq1 hh1 hW1 hbx hm hx hs hse
  go_enter Tryd.func13, Tryd.ntmps13
  go_upto_region 1 with fail
  rw [HBX.out, HW1.out]
  go_wp2_with fail
  refine HHI.out.mono ?_
  rintro e w2 ⟨rfl, hw2⟩
  have hw2 := hw2.symm
  subst hw2
  by_cases h1 : id < 1
  · have hse := HSE.out
    rw [if_pos (Or.inl h1)] at hse
    subst hse
    go_wp2_with fail
    go_ret
    exact ⟨rfl, .inl ⟨by decide, HB1.out⟩⟩
  · by_cases h2 : m = 0
    · have hse := HSE.out
      rw [if_pos (Or.inr h2)] at hse
      subst hse
      subst h2
      go_wp2_with fail
      go_ret
      exact ⟨rfl, .inl ⟨by decide, HB1.out⟩⟩
    · have hse1 := Lib.hid (HSE.out.trans (if_neg (by omega)))
      have h2i : ¬ (m : Int) = 0 := by omega
      by_cases h3 : bs < 0
      · have hse := hse1.out
        rw [if_pos (Or.inl h3)] at hse
        subst hse
        go_wp2_with fail
        go_ret
        exact ⟨rfl, .inl ⟨by decide, HB1.out⟩⟩
      · obtain ⟨Ac, cc, hcv, hcc⟩ := HH1.out.commit_slice
        have hc1 := HH1.out.heap
        rw [hcv] at hc1
        have HHD := Lib.hid (fun (q : Nat) => hhead_any hb Ac n cc (W1.drewN q) (cell_of_row (W1.drewN q) hb 1 _ _ _ (show (W1.drewN q).heap[hb]? = _ from hc1)))
        have q0 : W1.cell? ⟨qb, 0, none⟩ = some (.pointer (some ⟨hb, 0, none⟩)) := cell_of_row W1 qb 0 _ _ _ HQ1.out.heap
        clear hc1 hcv
        by_cases h4 : (n : Int) < bs
        · have hse := hse1.out
          rw [if_pos (Or.inr h4)] at hse
          subst hse
          go_wp2_with fail
          go_quiet ((go_at_call 11; exact Calls.quiet_of_same (HHD.out _)))
          go_wp2_with fail
          go_ret
          exact ⟨rfl, .inl ⟨by decide, belowQn HB1.out _⟩⟩
        · have hse2 := Lib.hid (hse1.out.trans (if_neg (by omega)))
          go_wp2_with fail
          go_quiet ((go_at_call 11; exact Calls.quiet_of_same (HHD.out _)))
          obtain ⟨w3, hw3⟩ : ∃ W, W1.drewN nq = W := ⟨_, rfl⟩
          have hbq : Below W1.heap.size W1 w3 := by rw [← hw3]; exact belowQn (Below.refl _ _) _
          have HB3 := Lib.hid (HB1.out.trans (hbq.mono HB1.out.size))
          have hq3 := HQ1.out.below hbq
          have HQ3 := Lib.hid hq3
          have HX3 := Lib.hid (show ReqB w3 bx (.int .i64 id) (.int .i64 bs) (.slice A m c) from row_belowQ HN1.out hbq)
          have HTK := Lib.hid (took_any hq3 id hid)
          obtain ⟨y0, y1, y2, -, -, -⟩ := HX3.out.facts
          rw [hw3]
          clear hbq hq3 x0 x1 x2 q0
          obtain ⟨tk, htk⟩ : ∃ b, (hasA L id || waitsQ R id) = b := ⟨_, rfl⟩
          have htk2 := htk
          rw [htk2] at HTK
          have hse3 := hse2.out
          rw [htk2] at hse3
          clear htk2
          have HSE3 := Lib.hid hse3
          clear hse3
          clear hw3
          cases tk with
          | true =>
            have hse := HSE3.out
            rw [if_pos rfl] at hse
            subst hse
            go_wp2_with fail
            refine HTK.out.mono ?_
            rintro e w4 ⟨rfl, hb4⟩
            have HB4 := Lib.hid (HB3.out.trans (hb4.mono HB3.out.size))
            clear hb4
            go_wp2_with fail
            go_ret
            exact ⟨rfl, .inl ⟨by decide, HB4.out⟩⟩
          | false =>
            have hse4 := Lib.hid (HSE3.out.trans (if_neg (by decide)))
            go_wp2_with fail
            refine HTK.out.mono ?_
            rintro e w4 ⟨rfl, hb4⟩
            have HB4 := Lib.hid (HB3.out.trans (hb4.mono HB3.out.size))
            have HQ4 := Lib.hid (HQ3.out.below hb4)
            have HX4 := Lib.hid (show ReqB w4 bx (.int .i64 id) (.int .i64 bs) (.slice A m c) from row_belowQ HX3.out hb4)
            clear hb4 y0 y1 y2
            obtain ⟨Av, cv2, hv, -, -, -, -⟩ := HQ4.out.waits.slice
            have hqf := HQ4.out.heap
            rw [hv] at hqf
            have HFU := Lib.hid (qfull_any qb _ _ Av R.length cv2 room w4 hqf)
            clear hqf hv
            by_cases h5 : room ≤ R.length
            · have hse := hse4.out
              rw [if_pos h5] at hse
              subst hse
              rw [decide_eq_true h5] at HFU
              go_wp2_with fail
              refine HFU.out.mono ?_
              rintro e w5 ⟨rfl, q5, rfl⟩
              go_wp2_with fail
              go_ret
              exact ⟨rfl, .inl ⟨by decide, belowQn HB4.out _⟩⟩
            · have hse := hse4.out
              rw [if_neg h5] at hse
              subst hse
              rw [decide_eq_false h5] at HFU
              go_wp2_with fail
              refine HFU.out.mono ?_
              rintro e w5 ⟨rfl, q5, rfl⟩
              go_wp2_with fail
              obtain ⟨w5, hw5⟩ : ∃ W, w4.drewN q5 = W := ⟨_, rfl⟩
              have hb5 : Below w.heap.size w w5 := by rw [← hw5]; exact belowQn HB4.out _
              have hb45 : Below w4.heap.size w4 w5 := by rw [← hw5]; exact belowQn (Below.refl _ _) _
              have hq5 := HQ4.out.below hb45
              have hx5 : ReqB w5 bx (.int .i64 id) (.int .i64 bs) (.slice A m c) := row_belowQ HX4.out hb45
              have X5 := hx5.facts
              have hown := qown_any ⟨id, bs, A, c, l⟩ w5.drew (HX.out.below (hb5.drew)) HSM.out (show 0 < l.length by have := HM.out; omega)
              unfold QX.v at hown
              simp only [HM.out] at hown
              have HOWN := Lib.hid hown
              have HQ5 := Lib.hid hq5
              have HX5 := Lib.hid hx5
              have HB5 := Lib.hid hb5
              have hw5s := hb5.size
              have hbx5 : bx < w5.heap.size := (Array.getElem?_eq_some_iff.1 hx5).1
              have HNQ := Lib.hid (show bx ≠ qb from fun e => by
                unfold ReqB at hx5
                rw [e, hq5.heap] at hx5; cases hx5)
              have HNV := Lib.hid (show v.ownBlock ≠ some bx from fun e => by
                obtain ⟨_, cur, hc⟩ := HQ.out.waits.far e
                have := (Array.getElem?_eq_some_iff.1 hc).1
                have := HBX.out
                omega)
              have hm0 : 0 < l.length := by have := HM.out; omega
              rw [hw5]
              clear hw5 hb5 hb45 hq5 hx5 hown
              refine wp_region_held_drew (S := (fun w' => w'.cell? ⟨bx, 0, none⟩ = some (.int .i64 id) ∧ w'.cell? ⟨bx, 1, none⟩ = some (.int .i64 bs) ∧ w'.cell? ⟨bx, 2, none⟩ = some (.slice A m c))) (by kernel_rfl) ⟨X5.1, X5.2.1, X5.2.2.1⟩ (fun hHeld => ?_)
              refine wpAnyH_take (i := 0) (v := ?vs0) rfl (by kernel_rfl) (by kernel_rfl) (by kernel_rfl) (fun _ _ _ h => h) (Or.inl ⟨by rfl, ?ys0⟩) (by assumption) ?rs0
              case ys0 =>
                intro w hSw
                (try dsimp only at hSw)
                go_simp
                first | done | with_reducible rfl
              try simp only [Act.put, List.getElem_toArray, List.getElem_cons_zero, List.setIfInBounds_toArray, List.set_cons_zero, List.set_cons_succ]
              refine wpAnyH_take (i := 1) (v := ?vs1) rfl (by kernel_rfl) (by kernel_rfl) (by kernel_rfl) (fun _ _ _ h => h) (Or.inl ⟨by rfl, ?ys1⟩) (by assumption) ?rs1
              case ys1 =>
                intro w hSw
                (try dsimp only at hSw)
                go_simp
                first | done | with_reducible rfl
              try simp only [Act.put, List.getElem_toArray, List.getElem_cons_zero, List.getElem_cons_succ, List.setIfInBounds_toArray, List.set_cons_zero, List.set_cons_succ]
              refine wpAnyH_take (i := 2) (v := ?vs2) rfl (by kernel_rfl) (by kernel_rfl) (by kernel_rfl) (fun _ _ _ h => h) (Or.inl ⟨by rfl, ?ys2⟩) (by assumption) ?rs2
              case ys2 =>
                intro w hSw
                (try dsimp only at hSw)
                go_simp
                first | done | with_reducible rfl
              try simp only [Act.put, List.getElem_toArray, List.getElem_cons_zero, List.getElem_cons_succ, List.setIfInBounds_toArray, List.set_cons_zero, List.set_cons_succ]
              refine wpAnyH_take (i := 3) (v := ?vs3) rfl (by kernel_rfl) (by kernel_rfl) (by kernel_rfl) (fun _ _ _ h => h) (Or.inl ⟨by rfl, ?ys3⟩) (by assumption) ?rs3
              case ys3 =>
                intro w hSw
                (try dsimp only at hSw)
                go_simp
                first | done | with_reducible rfl
              try simp only [Act.put, List.getElem_toArray, List.getElem_cons_zero, List.getElem_cons_succ, List.setIfInBounds_toArray, List.set_cons_zero, List.set_cons_succ]
              refine wpAnyH_ready (rs := [4]) (by kernel_rfl) (by simp) ?_
              refine AllReadyH.cons rfl (fun K hK => ?_) AllReadyH.nil
              go_simp
              refine HOWN.out.mono ?_
              rintro e w6 ⟨y, rfl, hy1, hy2, hy3, hyd, hb6⟩
              have hb6' : Below w5.heap.size w5 w6 := (Below.refl _ _).drew.trans hb6
              have hx6 := (hb6'.block bx hbx5).trans HX5.out
              have HY := Lib.hid (show y.id = id ∧ y.base = bs ∧ y.l.map DX.dl = l.map DX.dl from ⟨hy1, hy2, hy3⟩)
              have hq6 := HQ5.out.below hb6'
              have hyl : y.l.length = l.length := by have := congrArg List.length hy3; simpa using this
              have hjo := join_any hq6 y (by have := hb6'.size; omega) (hyd.lowerQ (by show base ≤ w5.heap.size; omega)) (small_dl hy3 HSM.out) (by rw [hyl]; omega) hR
              have HJO := Lib.hid hjo
              have HB6 := Lib.hid hb6'
              have HX6 := Lib.hid hx6
              have hbx6 : bx < w6.heap.size := (Array.getElem?_eq_some_iff.1 hx6).1
              have hHeld := (show _ ∧ _ ∧ _ from ⟨cell_of_row _ bx 0 _ _ _ hx6, cell_of_row _ bx 1 _ _ _ hx6, cell_of_row _ bx 2 _ _ _ hx6⟩)
              clear hb6 hb6' hx6 hq6 hjo hy1 hy2 hy3 hyd hyl
              refine hK.out _ _ hHeld (fun hHeld => ?_)
              clear hK K
              try simp only [Act.put, List.getElem_toArray, List.getElem_cons_zero, List.getElem_cons_succ, List.setIfInBounds_toArray, List.set_cons_zero, List.set_cons_succ]
              refine wpAnyH_ready (rs := [5]) (by kernel_rfl) (by simp) ?_
              refine AllReadyH.cons rfl (fun K hK => ?_) AllReadyH.nil
              go_simp
              refine HJO.out.mono ?_
              rintro e w7 ⟨v7, rfl, hq7, ht7, hv7⟩
              have hx7 := (ht7.block bx hbx6 (fun h => h.elim (fun e => HNQ.out e) (fun e => HNV.out e))).trans HX6.out
              have HQ7 := Lib.hid hq7
              have HT7 := Lib.hid ht7
              have HV7 := Lib.hid hv7
              have hHeld := (show _ ∧ _ ∧ _ from ⟨cell_of_row _ bx 0 _ _ _ hx7, cell_of_row _ bx 1 _ _ _ hx7, cell_of_row _ bx 2 _ _ _ hx7⟩)
              clear hq7 ht7 hv7 hx7
              refine hK.out _ _ hHeld (fun hHeld => ?_)
              clear hK K
              try simp only [Act.put, List.getElem_toArray, List.getElem_cons_zero, List.getElem_cons_succ, List.setIfInBounds_toArray, List.set_cons_zero, List.set_cons_succ]
              refine wpAnyH_done (by kernel_rfl) ?_ _
              go_wp2_with fail
              go_ret
              have hbw6 := HB5.out.trans (HB6.out.mono HB5.out.size)
              refine ⟨rfl, ⟨v7, y, HQ7.out, HY.out, (QTurn.of_below (S := fun j => j = qb ∨ v.ownBlock = some j) hbw6).trans HT7.out (fun j hj _ => hj), fun j hj => ?_⟩⟩
              rcases HV7.out j hj with e | e
              · exact .inl e
              · exact .inr (Nat.le_trans hbw6.size e)
end Go.Proofs.YtnkfnmkbfnhmfaaDoor
