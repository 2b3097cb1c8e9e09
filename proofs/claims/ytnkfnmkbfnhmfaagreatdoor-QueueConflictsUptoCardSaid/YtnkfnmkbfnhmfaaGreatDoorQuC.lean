/-
  Plain: what is refused of the names is refused of the tree, by the same error; the head's tree of a history. No program is named here. · The document's own Apply once more: what it answers stays wherever rows of files, and what was handed in, stay. (after XTRefD) · The law QueueConflicts, walked. (gen_qucon.py)
-/
import Derived.Test.YtnkfnmkbfnhmfaaGreatDoorGZ
import Derived.Test.YtnkfnmkbfnhmfaaGreatDoorTRefz
import Derived.Test.YtnkfnmkbfnhmfaaGreatDoorQuZ
import Derived.Test.YtnkfnmkbfnhmfaaGreatDoorGSame
import Derived.Test.YtnkfnmkbfnhmfaaGreatDoorGSmall
namespace Go.Proofs.YtnkfnmkbfnhmfaaGreatDoor
open Go Go.RowKit Go.Shelf Go.Proofs Go.ChangeMaps Go.Maps Go.WideMaps

theorem Like.stepsE : ∀ (D : List Dl) {b t : List Fl} {q : Int}, Like b t → stepsT b D = .error q → stepsT t D = .error q
  | [], _, _, _, _, e => by cases e
  | d :: D, b, t, q, h, e => by
    unfold stepsT at e ⊢
    rw [stepT_ref] at e ⊢
    rw [← h.ref]
    by_cases h0 : refT b d = 0
    · rw [if_pos h0] at e ⊢
      exact Like.stepsE D (h.ch d) e
    · rw [if_neg h0] at e ⊢
      exact e
theorem Like.long : ∀ {b t : List Fl}, Like b t → t.any (fun x => decide (65536 < x.2.length)) = true → b.any (fun x => decide (65536 < x.2.length)) = true
  | [], [], _, h => h
  | x :: b, y :: t, h, h3 => by
    rw [List.any_cons, Bool.or_eq_true] at h3 ⊢
    rcases h3 with h3 | h3
    · refine .inl ?_
      rcases h.1.2 with e | e
      · rw [e]; exact h3
      · rw [decide_eq_true_eq] at h3; omega
    · exact .inr (Like.long h.2 h3)
theorem Like.back : ∀ {t : List Fl}, Like t (bareT t)
  | [] => trivial
  | _ :: _ => ⟨⟨rfl, .inr (Nat.zero_le _)⟩, Like.back⟩
theorem apply_bare_err {t : List Fl} {D : List Dl} {q : Int} (ht : rightT t = true) (h : applyT (bareT t) D = .error q) : applyT t D = .error q := by
  have h1 : Like (bareT t) t := Like.of fun x hx => (right_ok ht x hx).2
  have h2 : Like t (bareT t) := Like.back
  unfold applyT at h ⊢
  cases e : stepsT (bareT t) D with
  | error k =>
    rw [e] at h
    rw [Like.stepsE D h1 e]
    exact h
  | ok f =>
    obtain ⟨f1, e1, l1⟩ := Like.steps D h1 e
    obtain ⟨f', e', l2⟩ := Like.steps D h2 e1
    rw [e] at e'
    cases e'
    rw [e] at h
    rw [e1]
    have hlen := l1.len
    have hl : longT f1 = longT f := by
      unfold longT
      rw [hlen]
      congr 1
      rw [Bool.eq_iff_iff]
      exact ⟨l1.long, l2.long⟩
    have hr : rightT f1 = rightT f := by rw [Bool.eq_iff_iff]; exact ⟨l2.right, l1.right⟩
    simp only at h ⊢
    rw [hl, hr]
    cases hlf : longT f with
    | true =>
      rw [hlf, if_pos rfl] at h
      rw [if_pos rfl]
      exact h
    | false =>
      rw [hlf, if_neg (by decide)] at h
      rw [if_neg (by decide)]
      cases hrf : rightT f with
      | true => rw [hrf, if_pos rfl] at h; cases h
      | false =>
        rw [hrf, if_neg (by decide)] at h
        rw [if_neg (by decide)]
        exact h
theorem made_tree {t : List Fl} (ht : rightT t = true) : ∀ {H : List (Nat × List DX)} {b : List Fl}, Made t H b → ∃ f, IsTree H (H.length - 1) f ∧ rightT f = true ∧ bareT f = b
  | [], _, h => h.elim
  | [(_, _)], _, h => ⟨t, first_is (right_sorted ht) h.1, ht, h.2.symm⟩
  | (G, _) :: _ :: _, _, ⟨_, h1, _, _, h3, h7⟩ => by
    obtain ⟨f0, hi, hr, hb⟩ := made_tree ht h1
    rw [← hb] at h3
    obtain ⟨f1, h4, h5, h6⟩ := commit_tree (G := G) (by simp) hr hi h3
    exact ⟨f1, h5, applyT_ok h4, h6.trans h7.symm⟩
end Go.Proofs.YtnkfnmkbfnhmfaaGreatDoor
namespace Go.Proofs.YtnkfnmkbfnhmfaaGreatDoor
open Go Go.RowKit Go.Shelf Go.Proofs
attribute [local go_sem] Oper.semAt_some

/-- A way for worlds to turn that leaves rows of files alone. -/
structure KRel (n : Nat) (K : World → World → Prop) : Prop where
  self : ∀ w, K w w
  back : ∀ {a b c : World}, n ≤ a.heap.size → Below a.heap.size a b → K b c → K a c
  rows : ∀ {a b : World}, K a b → ∀ (g : Nat) (cur : Array Value), a.heap[g]? = some (Obj.cells cur 87 (0, 0)) → b.heap[g]? = a.heap[g]?
structure StickT (n : Nat) (K : World → World → Prop) (w : World) (A : Option Addr) (c : Nat) (m : List FX) : Prop where
  rel : KRel n K
  le : n ≤ w.heap.size
  all : ∀ w', K w w' → TreeAt w' A c m
theorem StickT.now {n : Nat} {K : World → World → Prop} {w : World} {A : Option Addr} {c : Nat} {m : List FX} (h : StickT n K w A c m) : TreeAt w A c m := h.all w (h.rel.self w)
theorem StickT.below {n : Nat} {K : World → World → Prop} {w w' : World} {A : Option Addr} {c : Nat} {m : List FX} (h : StickT n K w A c m) (hb : Below w.heap.size w w') : StickT n K w' A c m :=
  ⟨h.rel, Nat.le_trans h.le hb.size, fun v hk => h.all v (h.rel.back h.le hb hk)⟩
theorem filesOwn_rel {n base : Nat} {K : World → World → Prop} {w w' : World} {v : Value} {l : List FX} (h : FilesOwn base w v l) (hr : KRel n K) (hk : K w w') : FilesOwn base w' v l :=
  ⟨h.1, h.2.imp (fun h => h) fun ⟨g, cap, cur, hv, hb', hg, r⟩ => ⟨g, cap, cur, hv, hb', (hr.rows hk g cur hg).trans hg, r⟩⟩
def RefApplyPostS (n : Nat) (K : World → World → Prop) (w : World) (r : Except Int (List Fl)) (e : Ending) (w' : World) : Prop := match r with
  | .error k => e = .returned (.tuple #[.slice none 0 0, .int .i64 k]) ∧ Below w.heap.size w w'
  | .ok f => ∃ A c l', e = .returned (.tuple #[.slice A l'.length c, .int .i64 0]) ∧ StickT n K w' A c l' ∧ flsX l' = f ∧ Below w.heap.size w w'
theorem refApplyS_err {n : Nat} {K : World → World → Prop} {w w' : World} {r : Except Int (List Fl)} {e : Ending} {k : Int} (h : r = .error k) (he : e = .returned (.tuple #[.slice none 0 0, .int .i64 k])) (hb : Below w.heap.size w w') : RefApplyPostS n K w r e w' := by
  subst h; exact ⟨he, hb⟩
theorem refApplyS_ok {n : Nat} {K : World → World → Prop} {w w' : World} {r : Except Int (List Fl)} {e : Ending} {A : Option Addr} {c : Nat} {l' : List FX} (h : r = .ok (flsX l')) (he : e = .returned (.tuple #[.slice A l'.length c, .int .i64 0])) (ht : StickT n K w' A c l') (hb : Below w.heap.size w w') : RefApplyPostS n K w r e w' := by
  subst h; exact ⟨A, c, l', he, ht, rfl, hb⟩
theorem row_keepS {n base : Nat} {K : World → World → Prop} {w w' : World} {A A' : Option Addr} {c c' : Nat} {m : List FX} {s : ByteArray} (h : FilesOwn base w' (.slice A' (keepX m s).length c') (keepX m s)) (ht : StickT n K w A c m) (hb : Below w.heap.size w w') : StickT n K w' A' c' (keepX m s) :=
  ⟨ht.rel, Nat.le_trans ht.le hb.size, fun v hk => ((filesOwn_rel h ht.rel hk).tree fun y hy => (ht.all v (ht.rel.back ht.le hb hk)).files y (keepX_sub y hy)).2⟩
theorem row_putS {n base : Nat} {K : World → World → Prop} {w w' : World} {A A' : Option Addr} {c c' : Nat} {m : List FX} {f : FX} (h : FilesOwn base w' (.slice A' (putX m f).length c') (putX m f)) (ht : StickT n K w A c m) (hf : ∀ v, K w v → BytesAt v f.A f.b) (hb : Below w.heap.size w w') : StickT n K w' A' c' (putX m f) :=
  ⟨ht.rel, Nat.le_trans ht.le hb.size, fun v hk => ((filesOwn_rel h ht.rel hk).tree fun y hy => by
    have hk2 := ht.rel.back ht.le hb hk
    rcases putX_sub y hy with rfl | hy
    · exact hf v hk2
    · exact (ht.all v hk2).files y hy).2⟩

set_option maxRecDepth 100000 in
set_option maxHeartbeats 8000000 in
theorem refapplyS_any {n : Nat} {K : World → World → Prop} (l : List FX) (D : List DX) (A B : Option Addr) (c d : Nat) (w : World) (h : StickT n K w A c l) (hs : SmallX l) (hl : l.length ≤ 70000) (hd : ∀ v, K w v → DelsAt v B d D) (hsd : SmallD D) :
    Calls Tryz.prog 31 #[.slice A l.length c, .slice B D.length d] w (RefApplyPostS n K w (applyT (flsX l) (D.map DX.dl))) := by
  have HDS := Lib.hid hd
  have HREL := Lib.hid h.rel
  have HLE := Lib.hid h.le
  have HD := Lib.hid (hd w (h.rel.self w)); clear hd
  have HSD := Lib.hid hsd; clear hsd
  have hdl := HSD.out.1
  go_enter Tryz.func31, Tryz.ntmps31
  go_wp2_with fail
  go_loopw [6, 7] (fun v i wr => ∃ (k : Nat) (m : List FX) (A' : Option Addr) (c' : Nat), k ≤ D.length ∧ v = .slice A' m.length c' ∧ i = .int .i64 k ∧ Hid (StickT n K wr A' c' m) ∧ Hid (RefInv l D k m) ∧ Below w.heap.size w wr) (fun _ i _ => D.length - (intOf i).toNat)
  case atStart => exact ⟨0, l, A, c, Nat.zero_le _, rfl, rfl, Lib.hid h, ⟨by omega, hs.2, rfl⟩, Below.refl _ _⟩
  case round =>
    obtain ⟨k, m, A', c', hk, rfl, rfl, HT, HI, hbr⟩ := hrel
    have hml : m.length ≤ 80000 := by have := HI.out.len; omega
    by_cases h1 : k < D.length
    · obtain ⟨x, hx⟩ : ∃ x, D[k]? = some x := ⟨_, List.getElem?_eq_getElem h1⟩
      obtain ⟨b, o, hB, hr⟩ := (HD.out.below hbr).row (by omega)
      subst hB
      obtain ⟨c1, c2, c3⟩ := hr k x hx
      have k1 : (k : Int) < (D.length : Int) := by omega
      have hxs := HSD.out.2 x (List.mem_of_getElem? hx)
      have HX := Lib.hid hx; clear hx
      clear hr
      have hbx : Below wr.heap.size wr (wr.alloc (.cells #[.int .i64 x.k, .string x.p, .slice x.A x.b.length x.c] 81)) := below_box _ _
      have xb0 := BoxD.new wr x 81
      have hbW := hbr.trans (hbx.mono hbr.size)
      have HRR := Lib.hid (refright_any x.p (wr.alloc (.cells #[.int .i64 x.k, .string x.p, .slice x.A x.b.length x.c] 81)) (by omega))
      have HBX := Lib.hid hbx; clear hbx
      have HB := Lib.hid hbW; clear hbW
      have HBR := Lib.hid hbr; clear hbr
      have XB0 := Lib.hid xb0; clear xb0
      by_cases hk1 : x.k < 1
      · have hbad : (decide (x.dl.k = 1 ∨ x.dl.k = 2 ∨ x.dl.k = 3) && rightB x.dl.p) = false := by
          show (decide (x.k = 1 ∨ x.k = 2 ∨ x.k = 3) && _) = false
          rw [decide_eq_false (show ¬ (x.k = 1 ∨ x.k = 2 ∨ x.k = 3) by omega)]; rfl
        have hd1 : decide (x.k < 1) = true := decide_eq_true hk1
        have hf := HI.out.fail HX.out (refT_bad hbad) (by decide : (2 : Int) ≠ 0)
        have HF := Lib.hid hf; clear hf
        go_wp2_with fail
        go_ret2
        exact refApplyS_err HF.out rfl HB.out
      · by_cases hk3 : 3 < x.k
        · have hbad : (decide (x.dl.k = 1 ∨ x.dl.k = 2 ∨ x.dl.k = 3) && rightB x.dl.p) = false := by
            show (decide (x.k = 1 ∨ x.k = 2 ∨ x.k = 3) && _) = false
            rw [decide_eq_false (show ¬ (x.k = 1 ∨ x.k = 2 ∨ x.k = 3) by omega)]; rfl
          have hf := HI.out.fail HX.out (refT_bad hbad) (by decide : (2 : Int) ≠ 0)
          have HF := Lib.hid hf; clear hf
          go_wp2_with fail
          go_ret2
          exact refApplyS_err HF.out rfl HB.out
        · have hkk : x.k = 1 ∨ x.k = 2 ∨ x.k = 3 := by omega
          go_wp2_with fail
          refine HRR.out.mono ?_
          rintro e w2 ⟨rfl, hq2⟩
          have xb2 := XB0.out.below hq2
          have hb2 : Below wr.heap.size wr w2 := HBX.out.trans (hq2.mono HBX.out.size)
          clear hq2
          cases hrx : rightB x.p.data.toList with
          | false =>
            have hbad : (decide (x.dl.k = 1 ∨ x.dl.k = 2 ∨ x.dl.k = 3) && rightB x.dl.p) = false := by
              show (_ && rightB x.p.data.toList) = false
              rw [hrx, Bool.and_false]
            have hf := HI.out.fail HX.out (refT_bad hbad) (by decide : (2 : Int) ≠ 0)
            have HF := Lib.hid hf; clear hf
            go_wp2_with fail
            go_ret2
            exact refApplyS_err HF.out rfl (HBR.out.trans (hb2.mono HBR.out.size))
          | true =>
            have HRX := Lib.hid hrx; clear hrx
            have e0 := xb2.c0
            have e1 := xb2.c1
            have hT2 := HT.out.below hb2
            have HFI := Lib.hid (reffind_any m A' c' x.p w2 hT2.now (by omega))
            have HT2 := Lib.hid hT2; clear hT2
            go_wp2_with fail
            refine HFI.out.mono ?_
            rintro e w3 ⟨rfl, hq3⟩
            have xb3 := xb2.below hq3
            have hb3 := hb2.trans (hq3.mono hb2.size)
            have hT3 := HT2.out.below hq3
            have hbx3 := fun (v : World) (hv : K w3 v) => (HDS.out v (HREL.out.back HLE.out (HBR.out.trans (hb3.mono HBR.out.size)) hv)).bytes x (List.mem_of_getElem? HX.out)
            have HT3 := Lib.hid hT3; clear hT3
            have HBX3 := Lib.hid hbx3; clear hbx3
            have e0 := xb3.c0
            have e1 := xb3.c1
            have e2 := xb3.c2
            have hbw3 := HBR.out.trans (hb3.mono HBR.out.size)
            have HBW3 := Lib.hid hbw3; clear hbw3
            clear hq3 hb2 xb2
            rcases place_get m x.p with ⟨p1, _, p3⟩ | ⟨j, y, p1, _, _, p3⟩
            · have P3 := Lib.hid p3; clear p3
              have hj : (0 : Int) ≤ -1 ↔ False := by decide
              rw [p1]
              clear p1
              rcases hkk with hK | hK | hK
              · rw [hK] at e0
                have HP := Lib.hid (refput_any m A' c' x.f w3 HT3.out.now (by omega))
                have h0 := refT_good HRX.out (.inl ⟨(show x.dl.k = 1 from hK), P3.out⟩)
                have H0 := Lib.hid h0; clear h0
                have hch : chX m x = putX m x.f := by unfold chX; rw [hK]; rfl
                have HCH := Lib.hid hch; clear hch
                go_wp2_with fail
                refine HP.out.mono ?_
                rintro e w4 ⟨v4, rfl, h4, hq4⟩
                obtain ⟨A4, c4, rfl⟩ := h4.slice
                have hT4 := row_putS h4 HT3.out HBX3.out hq4
                have HT4 := Lib.hid hT4; clear hT4
                have hb4 := HBW3.out.trans (hq4.mono HBW3.out.size)
                clear h4 hq4
                go_wp2_with fail
                go_roundw
                case rel => exact ⟨k + 1, chX m x, A4, c4, by omega, by rw [HCH.out], by go_num, by rw [HCH.out]; exact HT4, Lib.hid (HI.out.next HX.out H0.out hxs), hb4⟩
                case measure => simp [intOf]; omega
              · rw [hK] at e0
                have hf := HI.out.fail HX.out (refT_none HRX.out (.inl (show x.dl.k = 2 from hK)) P3.out) (by decide : (6 : Int) ≠ 0)
                have HF := Lib.hid hf; clear hf
                go_wp2_with fail
                go_ret2
                exact refApplyS_err HF.out rfl HBW3.out
              · rw [hK] at e0
                have hf := HI.out.fail HX.out (refT_none HRX.out (.inr (show x.dl.k = 3 from hK)) P3.out) (by decide : (6 : Int) ≠ 0)
                have HF := Lib.hid hf; clear hf
                go_wp2_with fail
                go_ret2
                exact refApplyS_err HF.out rfl HBW3.out
            · have P3 := Lib.hid p3; clear p3
              have hj0 : ¬ ((j : Int) < 0) := by omega
              have hj1 : (0 : Int) ≤ (j : Int) := by omega
              rw [p1]
              clear p1
              rcases hkk with hK | hK | hK
              · rw [hK] at e0
                have hf := HI.out.fail HX.out (refT_there HRX.out (show x.dl.k = 1 from hK) P3.out) (by decide : (5 : Int) ≠ 0)
                have HF := Lib.hid hf; clear hf
                go_wp2_with fail
                go_ret2
                exact refApplyS_err HF.out rfl HBW3.out
              · rw [hK] at e0
                have HP := Lib.hid (refput_any m A' c' x.f w3 HT3.out.now (by omega))
                have h0 := refT_good HRX.out (.inr ⟨(.inl (show x.dl.k = 2 from hK)), P3.out⟩)
                have H0 := Lib.hid h0; clear h0
                have hch : chX m x = putX m x.f := by unfold chX; rw [hK]; rfl
                have HCH := Lib.hid hch; clear hch
                go_wp2_with fail
                refine HP.out.mono ?_
                rintro e w4 ⟨v4, rfl, h4, hq4⟩
                obtain ⟨A4, c4, rfl⟩ := h4.slice
                have hT4 := row_putS h4 HT3.out HBX3.out hq4
                have HT4 := Lib.hid hT4; clear hT4
                have hb4 := HBW3.out.trans (hq4.mono HBW3.out.size)
                clear h4 hq4
                go_wp2_with fail
                go_roundw
                case rel => exact ⟨k + 1, chX m x, A4, c4, by omega, by rw [HCH.out], by go_num, by rw [HCH.out]; exact HT4, Lib.hid (HI.out.next HX.out H0.out hxs), hb4⟩
                case measure => simp [intOf]; omega
              · rw [hK] at e0
                have HP := Lib.hid (refdrop_any m A' c' x.p w3 HT3.out.now (by omega))
                have h0 := refT_good HRX.out (.inr ⟨(.inr (show x.dl.k = 3 from hK)), P3.out⟩)
                have H0 := Lib.hid h0; clear h0
                have hch : chX m x = keepX m x.p := by unfold chX; rw [hK]; rfl
                have HCH := Lib.hid hch; clear hch
                go_wp2_with fail
                refine HP.out.mono ?_
                rintro e w4 ⟨v4, rfl, h4, hq4⟩
                obtain ⟨A4, c4, rfl⟩ := h4.slice
                have hT4 := row_keepS h4 HT3.out hq4
                have HT4 := Lib.hid hT4; clear hT4
                have hb4 := HBW3.out.trans (hq4.mono HBW3.out.size)
                clear h4 hq4
                go_wp2_with fail
                go_roundw
                case rel => exact ⟨k + 1, chX m x, A4, c4, by omega, by rw [HCH.out], by go_num, by rw [HCH.out]; exact HT4, Lib.hid (HI.out.next HX.out H0.out hxs), hb4⟩
                case measure => simp [intOf]; omega
    · obtain rfl : k = D.length := by omega
      have hdone := HI.out.done
      have HDN := Lib.hid hdone; clear hdone
      go_wp2_with fail
      go_loopw [10] (fun i wq => ∃ (q : Nat), q ≤ m.length ∧ i = .int .i64 q ∧ (0 < q → m.length ≤ 1000) ∧ (∀ (n : Nat) (y : FX), n < q → m[n]? = some y → y.b.length ≤ 65536) ∧ Below wr.heap.size wr wq) (fun i _ => m.length - (intOf i).toNat)
      case atStart => exact ⟨0, Nat.zero_le _, rfl, fun h => absurd h (Nat.lt_irrefl _), fun _ _ h => absurd h (Nat.not_lt_zero _), Below.refl _ _⟩
      case round =>
        obtain ⟨q, hq, rfl, hlen, hno, hbq⟩ := hrel
        have hbwq := hbr.trans (hbq.mono hbr.size)
        by_cases h2 : q < m.length
        · obtain ⟨y, hy⟩ : ∃ y, m[q]? = some y := ⟨_, List.getElem?_eq_getElem h2⟩
          obtain ⟨g, o, hA, hr⟩ := (HT.out.below hbq).now.row (by omega)
          subst hA
          obtain ⟨_, c2⟩ := hr q y hy
          have q1 : (q : Int) < (m.length : Int) := by omega
          have HY := Lib.hid hy; clear hy
          have HNO := Lib.hid hno; clear hno
          clear hr
          by_cases hz : 65536 < y.b.length
          · have hz2 : (65536 : Int) < (y.b.length : Int) := by omega
            have hlg : longT (flsX m) = true := by
              unfold longT
              rw [Bool.or_eq_true]
              exact .inr (List.any_eq_true.2 ⟨y.fl, List.mem_map.2 ⟨y, List.mem_of_getElem? HY.out, rfl⟩, decide_eq_true hz⟩)
            have hf := HDN.out
            rw [hlg, if_pos rfl] at hf
            have HF := Lib.hid hf; clear hf hlg
            go_wp2_with fail
            go_ret2
            exact refApplyS_err HF.out rfl hbwq
          · have hz2 : ¬ (65536 : Int) < (y.b.length : Int) := by omega
            by_cases hn : 1000 < m.length
            · have hn2 : (1000 : Int) < (m.length : Int) := by omega
              have hlg : longT (flsX m) = true := by
                unfold longT
                rw [Bool.or_eq_true]
                exact .inl (decide_eq_true (by rw [flsX_length]; exact hn))
              have hf := HDN.out
              rw [hlg, if_pos rfl] at hf
              have HF := Lib.hid hf; clear hf hlg
              go_wp2_with fail
              go_ret2
              exact refApplyS_err HF.out rfl hbwq
            · have hn2 : ¬ (1000 : Int) < (m.length : Int) := by omega
              go_wp2_with fail
              go_roundw
              case rel => exact ⟨q + 1, by omega, by go_num, fun _ => by omega, fun n z hn hz => by
                rcases Nat.lt_or_eq_of_le (Nat.lt_succ_iff.1 hn) with h | rfl
                · exact HNO.out n z h hz
                · have := HY.out; rw [hz] at this; cases this; omega, hbq⟩
              case measure => simp [intOf]; omega
        · obtain rfl : q = m.length := by omega
          have hlg : longT (flsX m) = false := by
            unfold longT
            rw [Bool.or_eq_false_iff, decide_eq_false_iff_not, flsX_length, List.any_eq_false]
            refine ⟨?_, fun z hz => ?_⟩
            · rcases Nat.eq_zero_or_pos m.length with h | h
              · omega
              · have := hlen h; omega
            · obtain ⟨y, hy, rfl⟩ := List.mem_map.1 hz
              obtain ⟨n, hn, rfl⟩ := List.mem_iff_getElem.1 hy
              have := hno n _ hn (List.getElem?_eq_getElem hn)
              simp only [decide_eq_true_eq]
              exact Nat.not_lt.2 this
          have hf := HDN.out
          rw [hlg, if_neg (by decide)] at hf
          have HF := Lib.hid hf; clear hf hlg hno hlen
          have hTq := HT.out.below hbq
          have HRT := Lib.hid (reftright_any m A' c' wr hTq.now ⟨by omega, HI.out.each⟩)
          have HTQ := Lib.hid hTq; clear hTq
          go_wp2_with fail
          refine HRT.out.mono ?_
          rintro e w5 ⟨rfl, hq5⟩
          have hb5 := hbwq.trans (hq5.mono hbwq.size)
          have hT5 := HTQ.out.below hq5
          have HT5 := Lib.hid hT5; clear hT5
          cases hrt : rightT (flsX m) with
          | false =>
            have hf := HF.out
            rw [hrt, if_neg (by decide)] at hf
            have HF2 := Lib.hid hf; clear hf hrt
            go_wp2_with fail
            go_ret2
            exact refApplyS_err HF2.out rfl hb5
          | true =>
            have hf := HF.out
            rw [hrt, if_pos rfl] at hf
            have HF2 := Lib.hid hf; clear hf hrt
            go_wp2_with fail
            go_ret2
            exact refApplyS_ok HF2.out rfl HT5.out hb5
end Go.Proofs.YtnkfnmkbfnhmfaaGreatDoor
namespace Go.Proofs.YtnkfnmkbfnhmfaaGreatDoor
open Go Go.RowKit Go.Shelf Go.Proofs Go.ChangeMaps Go.Maps Go.WideMaps
attribute [local go_sem] Oper.semAt_some

theorem small_ofD {l : List DX} (h : longDN l ≤ 3000) : SmallD l := by
  have h2 := longDN_len l
  refine ⟨by omega, fun y hy => ?_⟩
  have h3 := longDN_mem hy
  omega
theorem sub_ok {n rm : Nat} {R : List QX} {L : List AX} {x : QX} (h1 : 1 ≤ x.id) (h2 : x.l.length ≠ 0) (h3 : 0 ≤ x.base ∧ x.base ≤ (n : Int)) (h4 : (hasA L x.id || waitsQ R x.id) = false) (h6 : R.length < rm) : subE n rm R L x = 0 := by
  unfold subE
  rw [if_neg (by omega), if_neg (by omega), h4, if_neg (by decide), if_neg (by omega)]
/-- What a queue's step leaves alone, beside what was there at first. -/
def KQ (n : Nat) (w w' : World) : Prop := w.heap.size ≤ w'.heap.size ∧ (∀ j, j < n → w'.heap[j]? = w.heap[j]?) ∧ ∀ (g : Nat) (cur : Array Value) (t : TypeId), t = 87 ∨ t = 5 → w.heap[g]? = some (Obj.cells cur t (0, 0)) → w'.heap[g]? = w.heap[g]?
theorem KQ.rel (n : Nat) : KRel n (KQ n) where
  self _ := ⟨Nat.le_refl _, fun _ _ => rfl, fun _ _ _ _ _ => rfl⟩
  back := fun {a b c} hn hb hk => ⟨Nat.le_trans hb.size hk.1, fun j hj => (hk.2.1 j hj).trans (hb.block j (by omega)), fun g cur t ht hg => by
    have h1 := hb.block g (Array.getElem?_eq_some_iff.1 hg).1
    exact (hk.2.2 g cur t ht (h1.trans hg)).trans h1⟩
  rows := fun hk g cur hg => hk.2.2 g cur _ (.inl rfl) hg
theorem KQ.bytes {n : Nat} {w w' : World} {A : Option Addr} {b : Bs} (h : BytesOwn w A b) (hk : KQ n w w') : BytesOwn w' A b := h.keep fun g cur hg => hk.2.2 g cur _ (.inr rfl) hg
theorem KQ.made {n base : Nat} {w w' : World} {v : Value} {l : List FX} (h : TreeMade base w v l) (hk : KQ n w w') : TreeMade base w' v l :=
  ⟨filesOwn_rel h.own (KQ.rel n) hk, fun x hx => KQ.bytes (h.bod x hx) hk⟩
theorem made_stick {n base : Nat} {w : World} {A : Option Addr} {c m : Nat} {l : List FX} (h : TreeMade base w (.slice A m c) l) (hm : m = l.length) (hn : n ≤ w.heap.size) : StickT n (KQ n) w A c l := by
  subst hm
  exact ⟨KQ.rel n, hn, fun w' hk => ((KQ.made h hk).own.tree fun x hx => ((KQ.made h hk).bod x hx).at_).2⟩
theorem refapply_ends {n : Nat} {K : World → World → Prop} {w : World} {r : Except Int (List Fl)} {e : Ending} {w' : World} (h : RefApplyPostS n K w r e w') : ∃ (v : Value) (q : Int), e = .returned (.tuple #[v, .int .i64 q]) ∧ Below w.heap.size w w' ∧ (r = .error q ∨ ∃ f A c l', r = .ok f ∧ q = 0 ∧ v = .slice A l'.length c ∧ StickT n K w' A c l' ∧ flsX l' = f) := by
  unfold RefApplyPostS at h
  cases r with
  | error k => exact ⟨_, k, h.1, h.2, .inl rfl⟩
  | ok f =>
    obtain ⟨A, c, l', he, hs, hf, hb⟩ := h
    exact ⟨_, 0, he, hb, .inr ⟨f, A, c, l', rfl, rfl, rfl, hs, hf⟩⟩
theorem late_take {M : Bs → Nat} {b : Int} {l : List DX} {k : Nat} {x : DX} (hx : l[k]? = some x) : lateQ M b (l.take (k + 1)) = (lateQ M b (l.take k) || decide (b < (M x.p.data.toList : Int))) := by
  unfold lateQ pathsX
  rw [List.take_add_one, hx, List.map_append, List.any_append]
  simp
theorem dels_K {w0 w v : World} {B : Option Addr} {d : Nat} {L : List DX} (h : DelsAt w0 B d L) (hb : Below w0.heap.size w0 w) (hk : KQ w0.heap.size w v) : DelsAt v B d L := by
  have hq : ∀ g, g < w0.heap.size → v.heap[g]? = w0.heap[g]? := fun g hg => (hk.2.1 g hg).trans (hb.block g hg)
  exact h.behind (fun g _ _ hg => hq g hg) (fun x hx => (h.bytes x hx).keep fun g _ _ hg => hq g hg)
theorem KQ.step {n base qb hb ab room : Nat} {w w' : World} {v : Value} {R : List QX} {L : List AX} (hq : QueueAt base w qb hb ab room v R L) (hb0 : Below n w w') (hf : QFrame qb v w w') : KQ n w w' := by
  refine ⟨hf.size, fun j hj => hb0.block j hj, fun g cur t ht hg => hf.cells g cur t (by rcases ht with rfl | rfl <;> decide) (fun e => ?_) (fun e => ?_) hg⟩
  · rw [e, hq.heap] at hg
    cases hg
    rcases ht with h | h <;> exact absurd h (by decide)
  · obtain ⟨_, cur2, hy⟩ := hq.waits.far e
    rw [hy] at hg
    cases hg
    rcases ht with h | h <;> exact absurd h (by decide)
theorem KQ.below {n : Nat} {w w' : World} (hn : n ≤ w.heap.size) (hb : Below w.heap.size w w') : KQ n w w' := (KQ.rel n).back hn hb ((KQ.rel n).self w')
theorem head_tree {t f : List Fl} {H : List (Nat × List DX)} {b : List Fl} {n : Nat} (ht : rightT t = true) (hm : Made t H b) (hn : H.length = n + 1) (hf : IsTree H n f) : rightT f = true ∧ bareT f = b := by
  obtain ⟨f0, h1, h2, h3⟩ := made_tree ht hm
  rw [hn, Nat.add_sub_cancel] at h1
  have e := isTree_unique hf h1 fun _ => rfl
  rw [e]
  exact ⟨h2, h3⟩
set_option maxRecDepth 200000 in
set_option maxHeartbeats 32000000 in
theorem qcon_any (t : List FX) (fs : List LX) (s : Int) (l : List DX) (A B E : Option Addr) (c d e : Nat) (w : World) (ht : TreeAt w A c t) (zt : BigX t) (hf : LRowAt w B d fs) (hfb : longLN fs ≤ 4611686018427387904) (hs : 0 ≤ s ∧ s ≤ 255) (hl : DelsAt w E e l) (hbl : BigD l) (hm : MaxOk w) :
    Calls Tryz.prog 4 #[.slice A t.length c, .slice B fs.length d, .int .u8 s, .slice E l.length e] w fun e w' => e = .returned (.bool true) ∧ Below w.heap.size w w' := by
  have HKN := Lib.hid (fun (W : World) (h : Below w.heap.size w W) => qknown_any W (hm.below h))
  have HT := Lib.hid ht
  have HZT := Lib.hid zt
  have HF := Lib.hid hf
  have HFB := Lib.hid hfb
  have HL := Lib.hid hl
  have HBL := Lib.hid hbl
  have HM := Lib.hid hm
  have hfc : fs.length ≤ maxLen := Nat.le_trans hf.cap hf.capm
  have hlc : l.length ≤ maxLen := Nat.le_trans hl.cap hl.capm
  unfold maxLen at hfc hlc
  obtain ⟨nl, hnl⟩ : ∃ n, l.length = n := ⟨_, rfl⟩
  rw [hnl] at hlc ⊢
  have HNL := Lib.hid hnl
  clear hnl
  clear ht zt hf hfb hl hbl hm
  by_cases g1 : 20 < t.length
  · have q1 : (20 : Int) < (t.length : Int) := by omega
    go_enter Tryz.func4, Tryz.ntmps4
    go_wp2_with fail
    refine (HKN.out w (Below.refl _ w : Below w.heap.size w w)).mono ?_
    rintro e wk ⟨rfl, hbk⟩
    have HBK := Lib.hid (show Below w.heap.size w wk from ((Below.refl _ w : Below w.heap.size w w)).trans (hbk.mono ((Below.refl _ w : Below w.heap.size w w)).size))
    clear hbk
    go_wp2_with fail
    go_ret
    exact ⟨rfl, HBK.out⟩
  have q1 : ¬ (20 : Int) < (t.length : Int) := by omega
  have HLT := Lib.hid (reflong_any t A c w HT.out (by omega) HZT.out)
  go_enter Tryz.func4, Tryz.ntmps4
  go_wp2_with fail
  refine HLT.out.mono ?_
  rintro e w1 ⟨rfl, hb1⟩
  have HB1 := Lib.hid hb1
  clear hb1
  by_cases g2 : 1000 < longN t
  · have q2 : (1000 : Int) < (longN t : Int) := by omega
    go_wp2_with fail
    refine (HKN.out w1 HB1.out).mono ?_
    rintro e wk ⟨rfl, hbk⟩
    have HBK := Lib.hid (show Below w.heap.size w wk from (HB1.out).trans (hbk.mono (HB1.out).size))
    clear hbk
    go_wp2_with fail
    go_ret
    exact ⟨rfl, HBK.out⟩
  have q2 : ¬ (1000 : Int) < (longN t : Int) := by omega
  by_cases g3 : 10 < fs.length
  · have q3 : (10 : Int) < (fs.length : Int) := by omega
    go_wp2_with fail
    refine (HKN.out w1 HB1.out).mono ?_
    rintro e wk ⟨rfl, hbk⟩
    have HBK := Lib.hid (show Below w.heap.size w wk from (HB1.out).trans (hbk.mono (HB1.out).size))
    clear hbk
    go_wp2_with fail
    go_ret
    exact ⟨rfl, HBK.out⟩
  have q3 : ¬ (10 : Int) < (fs.length : Int) := by omega
  have HLF := Lib.hid (hreflong_any fs B d w1 (HF.out.below HB1.out) HFB.out)
  go_wp2_with fail
  refine HLF.out.mono ?_
  rintro e w2 ⟨rfl, hb2⟩
  have HB2 := Lib.hid (HB1.out.trans (hb2.mono HB1.out.size))
  clear hb2
  by_cases g4 : 1000 < longLN fs
  · have q4 : (1000 : Int) < (longLN fs : Int) := by omega
    go_wp2_with fail
    refine (HKN.out w2 HB2.out).mono ?_
    rintro e wk ⟨rfl, hbk⟩
    have HBK := Lib.hid (show Below w.heap.size w wk from (HB2.out).trans (hbk.mono (HB2.out).size))
    clear hbk
    go_wp2_with fail
    go_ret
    exact ⟨rfl, HBK.out⟩
  have q4 : ¬ (1000 : Int) < (longLN fs : Int) := by omega
  by_cases g5 : 10 < nl
  · have q5 : (10 : Int) < (nl : Int) := by omega
    go_wp2_with fail
    refine (HKN.out w2 HB2.out).mono ?_
    rintro e wk ⟨rfl, hbk⟩
    have HBK := Lib.hid (show Below w.heap.size w wk from (HB2.out).trans (hbk.mono (HB2.out).size))
    clear hbk
    go_wp2_with fail
    go_ret
    exact ⟨rfl, HBK.out⟩
  have q5 : ¬ (10 : Int) < (nl : Int) := by omega
  have hld := reflongdeltas_any l E e w2 (HL.out.below HB2.out) (by rw [HNL.out]; omega) HBL.out
  rw [HNL.out] at hld
  have HLD := Lib.hid hld
  clear hld
  go_wp2_with fail
  refine HLD.out.mono ?_
  rintro e w3 ⟨rfl, hb3⟩
  have HB3 := Lib.hid (HB2.out.trans (hb3.mono HB2.out.size))
  clear hb3
  by_cases g6 : 500 < longDN l
  · have q6 : (500 : Int) < (longDN l : Int) := by omega
    go_wp2_with fail
    refine (HKN.out w3 HB3.out).mono ?_
    rintro e wk ⟨rfl, hbk⟩
    have HBK := Lib.hid (show Below w.heap.size w wk from (HB3.out).trans (hbk.mono (HB3.out).size))
    clear hbk
    go_wp2_with fail
    go_ret
    exact ⟨rfl, HBK.out⟩
  have q6 : ¬ (500 : Int) < (longDN l : Int) := by omega
  by_cases g7 : nl = 0
  · have q7 : (nl : Int) = 0 := by omega
    go_wp2_with fail
    refine (HKN.out w3 HB3.out).mono ?_
    rintro e wk ⟨rfl, hbk⟩
    have HBK := Lib.hid (show Below w.heap.size w wk from (HB3.out).trans (hbk.mono (HB3.out).size))
    clear hbk
    go_wp2_with fail
    go_ret
    exact ⟨rfl, HBK.out⟩
  have q7 : ¬ (nl : Int) = 0 := by omega
  have HSL := Lib.hid (small_ofD (l := l) (by omega))
  have HSF := Lib.hid (show hsmallL t fs = true by unfold hsmallL; simp only [Bool.and_eq_true, decide_eq_true_eq]; omega)
  have HST := Lib.hid (small_treeG HSF.out)
  have HNEW := Lib.hid (hnewS_any t A c w3 (HT.out.below HB3.out) HST.out (HM.out.below HB3.out))
  go_wp2_with fail
  · exfalso
    have hx : (((((1000 : Int) < (longN t : Int) ∨ (10 : Int) < (fs.length : Int)) ∨ (1000 : Int) < (longLN fs : Int)) ∨ (10 : Int) < (nl : Int)) ∨ (500 : Int) < (longDN l : Int)) ∨ ((nl : Int) == 0) = true := by assumption
    rw [beq_iff_eq] at hx
    omega
  clear q1 q2 q3 q4 q5 q6 q7 g1 g2 g4 g6
  refine HNEW.out.mono ?_
  intro e w4 hp
  unfold NewS at hp
  cases hr : rightT (flsX t) with
  | false =>
    rw [if_neg (by rw [hr]; decide)] at hp
    obtain ⟨rfl, hb4⟩ := hp
    have HB4 := Lib.hid (HB3.out.trans (hb4.mono HB3.out.size))
    clear hb4 hr
    go_wp2_with fail
    refine (HKN.out w4 HB4.out).mono ?_
    rintro e wk ⟨rfl, hbk⟩
    have HBK := Lib.hid (show Below w.heap.size w wk from (HB4.out).trans (hbk.mono (HB4.out).size))
    clear hbk
    go_wp2_with fail
    go_ret
    exact ⟨rfl, HBK.out⟩
  | true =>
  rw [if_pos hr] at hp
  obtain ⟨hb, G0, l0, rfl, hH, hb4⟩ := hp
  have HB4 := Lib.hid (HB3.out.trans (hb4.mono HB3.out.size))
  have HS0 : Hid (HSome w.heap.size w4 hb 0 (flsX t) [(G0, l0)]) := by
    obtain ⟨nm, M, nv, cv, mb, k, D, h, hm⟩ := hH
    exact Lib.hid ⟨nm, M, nv, cv, mb, k, D, h.rebase HB3.out.size, hm⟩
  have HRT := Lib.hid hr
  clear hb4 hH hr HNEW HLT HLF HLD
  obtain ⟨N, hN⟩ : ∃ N, fs.length = N := ⟨_, rfl⟩
  rw [hN] at g3 hfc ⊢
  have HN := Lib.hid hN
  clear hN
  go_wp2_with fail
  go_loopw [11] (fun v11 wr => ∃ (j n : Nat) (H : List (Nat × List DX)), j ≤ N ∧ v11 = .int .i64 j ∧ Hid (n ≤ j) ∧ Hid (HSome w.heap.size wr hb n (flsX t) H) ∧ Hid (Below w.heap.size w wr)) (fun v11 _ => N - (intOf v11).toNat)
  case atStart => exact ⟨0, 0, _, Nat.zero_le _, rfl, Lib.hid (Nat.le_refl _), HS0, HB4⟩
  case round =>
    clear HS0 HB4
    obtain ⟨j, n, H, hj, rfl, HNJ, HS, HB⟩ := hrel
    by_cases h1 : j < N
    · obtain ⟨x, hx⟩ : ∃ x, fs[j]? = some x := ⟨_, List.getElem?_eq_getElem (by rw [HN.out]; exact h1)⟩
      obtain ⟨g, o, hB, hrw⟩ := HF.out.row (by rw [HN.out]; omega)
      have c0 := hrw j x hx
      have hmem := List.mem_of_getElem? hx
      have c1 := (HB.out.cell (p := ⟨g, o + j, none⟩) (World.block_lt_of_cell? w (a := ⟨g, o + j, none⟩) c0)).trans c0
      have HC := Lib.hid (HS.out.commit HB.out (by have := HNJ.out; omega) x.d x.A x.c (DelsKeep.args (HF.out.dels x hmem) HB.out HS.out.lb.1) (small_delsG HSF.out hmem) HM.out)
      have k1 : (j : Int) < (N : Int) := by omega
      subst hB
      clear hx hrw hmem c0
      go_wp2_with fail
      refine HC.out.mono ?_
      rintro e w5 hp5
      rcases hp5 with ⟨q, hq, -, rfl, hb5⟩ | ⟨G, rfl, hS5, hb5, -⟩
      · have HS5 := Lib.hid (HS.out.below hb5)
        have HB5 := Lib.hid (HB.out.trans (hb5.mono HB.out.size))
        clear hb5 hq c1
        go_wp2_with fail
        go_roundw
        case rel => exact ⟨j + 1, n, H, by omega, by go_num, Lib.hid (Nat.le_succ_of_le HNJ.out), HS5, HB5⟩
        case measure => simp [intOf]; omega
      · have HS5 := Lib.hid hS5
        have HB5 := Lib.hid (HB.out.trans hb5)
        clear hb5 hS5 c1
        go_wp2_with fail
        go_roundw
        case rel => exact ⟨j + 1, n + 1, _, by omega, by go_num, Lib.hid (Nat.succ_le_succ HNJ.out), HS5, HB5⟩
        case measure => simp [intOf]; omega
    · have k1 : ¬ (j : Int) < (N : Int) := by omega
      have hn10 : n ≤ 10 := by have := HNJ.out; omega
      have HHD := Lib.hid HS.out.head
      clear hj h1 HNJ
      go_wp2_with fail
      refine HHD.out.mono ?_
      rintro e w5 ⟨rfl, hw5⟩
      have hw5 := hw5.symm
      subst hw5
      have wn1 : IntKind.i64.wrap ((n : Int) + 1) = (n : Int) + 1 := IntWalk.i64_in _ (by omega)
      have nz1 : ((n : Int) + 1 = 0) = False := eq_false (by omega)
      have nz2 : ((n : Int) + 1 == 0) = false := by rw [beq_eq_false_iff_ne]; omega
      have HQN := Lib.hid (qnew_any hb 1 1 wr (by decide))
      go_wp2_with fail
      refine HQN.out.mono ?_
      rintro e w6 ⟨qb, ab, rfl, hab, hq6, hb6⟩
      obtain ⟨bI, hbI⟩ : ∃ b, s % ((n : Int) + 1) = b := ⟨_, rfl⟩
      have hb0 : 0 ≤ bI ∧ bI ≤ (n : Int) := by
        rw [← hbI]
        exact ⟨Int.emod_nonneg _ (by omega), by have := Int.emod_lt_of_pos s (show 0 < (n : Int) + 1 by omega); omega⟩
      rw [hbI]
      obtain ⟨nm, M, nv, cv, mb, k, D, hH, hmd⟩ := HS.out
      have hne : ab ≠ mb := by
        obtain ⟨es, ck, hy⟩ := hH.map.block
        have := (Array.getElem?_eq_some_iff.1 hy).1
        omega
      have hbw6 := HB.out.trans (hb6.mono HB.out.size)
      have hq6 := hq6.lower HB.out.size
      have hH6 := hH.below hb6
      have hsub := submit_any hq6 hH6 ⟨1, bI, E, e, l⟩ hbw6.size (HL.out.below hbw6) HSL.out (by simp) (key_int 1 (by omega) (by omega))
      have hse : subE n 1 [] [] ⟨1, bI, E, e, l⟩ = 0 := sub_ok (by show (1 : Int) ≤ 1; omega) (by show l.length ≠ 0; rw [HNL.out]; exact g7) hb0 rfl (by decide)
      rw [show QX.v ⟨1, bI, E, e, l⟩ = .agg #[.int .i64 1, .int .i64 bI, .slice E nl e] by show Value.agg #[.int .i64 1, .int .i64 bI, .slice E l.length e] = _; rw [HNL.out]] at hsub
      have HSUB := Lib.hid hsub
      have HSE := Lib.hid hse
      have HNE := Lib.hid hne
      have HMD := Lib.hid hmd
      have HNUM := Lib.hid hH.num
      have HQ6 := Lib.hid hq6
      have HH6 := Lib.hid hH6
      have HB6 := Lib.hid hbw6
      clear hbI wn1 nz1 nz2 hab hq6 hb6 hH hmd hne hbw6 hH6 hsub hse HS HB HHD HQN
      go_wp2_with fail
      refine HSUB.out.mono ?_
      rintro e w7 ⟨rfl, hp7⟩
      rw [HSE.out] at hp7 ⊢
      rcases hp7 with ⟨h, _⟩ | ⟨_, v7, Y, hq7, ⟨hY1, hY2, hY3⟩, ht7, hv7⟩
      · exact absurd rfl h
      have HQ7 := Lib.hid (show QueueAt w.heap.size w7 qb hb ab 1 v7 [Y] [] from hq7)
      have HH7 := Lib.hid (HH6.out.turned HQ6.out ht7)
      have HB7 := Lib.hid (HB6.out.trans (ht7.below (n := w.heap.size) (fun j e => by
        rcases e with rfl | e
        · exact HQ6.out.lq
        · cases e) HB6.out.size))
      have HY := Lib.hid (show Y.id = 1 ∧ Y.base = bI ∧ Y.l.map DX.dl = l.map DX.dl from ⟨hY1, hY2, hY3⟩)
      clear hq7 hY1 hY2 hY3 ht7 hv7 HSUB HQ6 HH6 HB6
      go_wp2_with fail
      go_loopw [15, 16] (fun v15 v16 wr => ∃ (i : Nat), v15 = .bool (lateQ M bI (l.take i)) ∧ v16 = .int .i64 i ∧ i ≤ nl ∧ Hid (QueueAt w.heap.size wr qb hb ab 1 v7 [Y] []) ∧ Hid (HistAt w.heap.size wr hb n nm M nv cv mb k D H) ∧ Hid (Below w.heap.size w wr)) (fun _ v16 _ => nl - (intOf v16).toNat)
      case atStart => exact ⟨0, rfl, rfl, Nat.zero_le _, HQ7, HH7, HB7⟩
      case round =>
        clear HQ7 HH7 HB7
        obtain ⟨i, rfl, rfl, hi, HQ, HH, HB⟩ := hrel
        by_cases hlt : i < nl
        · have k2 : (i : Int) < (nl : Int) := by omega
          obtain ⟨x, hx⟩ : ∃ x, l[i]? = some x := ⟨_, List.getElem?_eq_getElem (by rw [HNL.out]; exact hlt)⟩
          obtain ⟨g, o, hE, hr⟩ := (HL.out.below HB.out).row (by rw [HNL.out]; omega)
          obtain ⟨-, c1, -⟩ := hr i x hx
          have HLT := Lib.hid (late_take (M := M) (b := bI) hx)
          have hxs := (HSL.out.2 x (List.mem_of_getElem? hx)).1
          have HLA := Lib.hid (hlast_any hb mb k D M x.p (by unfold maxLen; omega) wr (cell_of_row wr hb 2 _ _ _ HH.out.heap) HH.out.map HH.out.revs)
          obtain ⟨mp, hmp⟩ : ∃ m : Nat, M x.p.data.toList = m := ⟨_, rfl⟩
          rw [hmp] at HLT HLA
          subst hE
          clear hx hr hmp hxs
          cases hl : lateQ M bI (l.take i) with
          | true =>
            rw [hl] at HLT
            clear hl
            go_wp2_with fail
            go_roundw
            case rel => exact ⟨i + 1, by rw [HLT.out]; rfl, by go_num, by omega, HQ, HH, HB⟩
            case measure => simp [intOf]; omega
          | false =>
            rw [hl] at HLT
            clear hl
            go_wp2_with fail
            refine HLA.out.mono ?_
            rintro e w8 ⟨rfl, hw8⟩
            have hw8 := hw8.symm
            subst hw8
            clear c1
            go_wp2_with fail
            go_roundw
            case rel => exact ⟨i + 1, by rw [HLT.out, Bool.false_or], by go_num, by omega, HQ, HH, HB⟩
            case measure => simp [intOf]; omega
        · have hi2 : i = nl := by omega
          have k2 : ¬ (i : Int) < (nl : Int) := by omega
          rw [show l.take i = l by rw [hi2]; exact List.take_of_length_le (by rw [HNL.out]; exact Nat.le_refl _)]
          obtain ⟨lt, hlte⟩ : ∃ b, lateQ M bI l = b := ⟨_, rfl⟩
          rw [hlte]
          have HLTE := Lib.hid hlte
          have HAT := Lib.hid (hat_any HH.out (r := n) (Nat.le_refl _) (by omega))
          clear hlte hi2
          go_wp2_with fail
          refine HAT.out.mono ?_
          rintro e w8 ⟨v8, lf, rfl, htm, hit, hlf, hb8⟩
          obtain ⟨Af, cf, rfl⟩ := htm.own.slice
          obtain ⟨hrf, hbf⟩ := head_tree HRT.out HMD.out HNUM.out hit
          obtain ⟨hsm, hl1⟩ := small_of_right hrf
          have hB8 := HB.out.trans (hb8.mono HB.out.size)
          have hap := refapplyS_any lf l Af E cf e w8 (made_stick htm rfl hB8.size) hsm (by omega) (fun v hk => dels_K HL.out hB8 hk) HSL.out
          rw [HNL.out] at hap
          have HAP := Lib.hid hap
          have HTM := Lib.hid htm
          have HIT := Lib.hid hit
          have HRF := Lib.hid hrf
          have HBF := Lib.hid hbf
          have HLF := Lib.hid hl1
          have HQ8 := Lib.hid (HQ.out.below hb8)
          have HH8 := Lib.hid (HH.out.below hb8)
          have HB8 := Lib.hid hB8
          clear htm hit hlf hb8 hrf hbf hsm hl1 hB8 hap HAT HQ HH HB
          go_wp2_with fail
          refine HAP.out.mono ?_
          intro e w9 hp9
          obtain ⟨vn, qg, rfl, hb9, hr9⟩ := refapply_ends hp9
          have hB9 := HB8.out.trans (hb9.mono HB8.out.size)
          have hq9 := HQ8.out.below hb9
          have hst := step_any w hq9 (HH8.out.below hb9) HNE.out hB9 true (by omega) (by simp) (by simp) HM.out (by rw [HY.out.1]; exact key_int 1 (by omega) (by omega))
          have HST := Lib.hid hst
          have HQ9 := Lib.hid hq9
          have HB9 := Lib.hid hB9
          have HR9 := Lib.hid hr9
          have HTM9 := Lib.hid (KQ.made HTM.out (KQ.below HB8.out.size hb9))
          clear hp9 hb9 hr9 hB9 hq9 hst HAP HQ8 HH8 HTM
          go_wp2_with fail
          refine HST.out.mono ?_
          rintro e wA ⟨a, vA, rfl, -, hstA, hbwA, hfA, -⟩
          have HKA := Lib.hid (KQ.step HQ9.out hbwA hfA)
          have HBA := Lib.hid (HB9.out.trans hbwA)
          have HSA := Lib.hid hstA
          have HTMA := Lib.hid (KQ.made HTM9.out HKA.out)
          clear hstA hbwA hfA HST
          have hid := StepQ.id HSA.out
          rw [HY.out.1] at hid
          have hlq : lateQ M Y.base Y.l = lt := by
            have hp : pathsX Y.l = pathsX l := by
              have e1 : pathsX Y.l = (Y.l.map DX.dl).map Dl.p := by unfold pathsX; rw [List.map_map]; rfl
              have e2 : pathsX l = (l.map DX.dl).map Dl.p := by unfold pathsX; rw [List.map_map]; rfl
              rw [e1, e2, HY.out.2.2]
            have h := HLTE.out
            unfold lateQ at h ⊢
            rw [hp, HY.out.2.1]; exact h
          cases lt with
          | true =>
            have ha : a = ⟨1, 2, 0, 0⟩ ∧ ∃ nm nv cv k D, HistAt w.heap.size wA hb n nm M nv cv mb k D H := by
              rcases HSA.out with ⟨⟨_, h⟩ | ⟨h, _⟩ | ⟨h, _⟩, nv', cv', k', D', hh⟩ | ⟨h, _⟩
              · exact ⟨by rw [h, HY.out.1], _, nv', cv', k', D', hh⟩
              · rw [hlq] at h; cases h
              · rw [hlq] at h; cases h
              · rw [hlq] at h; cases h
            obtain ⟨rfl, nmA, nvA, cvA, kA, DA, hHA⟩ := ha
            clear hid hlq
            simp only [AX.v]
            obtain ⟨b12, hb12⟩ : ∃ b, wA.heap.size = b := ⟨_, rfl⟩
            obtain ⟨W12, hW12⟩ : ∃ W, wA.alloc (.cells #[.int .i64 0, .int .i64 0, .int .i64 0, .int .i64 0] 46) = W := ⟨_, rfl⟩
            have a12 : AnsB W12 b12 noA := by unfold AnsB; rw [← hW12, ← hb12]; exact heap_alloc_new _ _
            have hbl12 : Below wA.heap.size wA W12 := by rw [← hW12]; exact (Below.refl _ _).alloc (Nat.le_refl _) _
            obtain ⟨a12s, g12⟩ := a12.store ⟨1, 2, 0, 0⟩
            simp only at a12s g12
            obtain ⟨V12, hV12⟩ : ∃ W, (((W12.setCell ⟨b12, 0, none⟩ (.int .i64 1)).setCell ⟨b12, 1, none⟩ (.int .i64 2)).setCell ⟨b12, 2, none⟩ (.int .i64 0)).setCell ⟨b12, 3, none⟩ (.int .i64 0) = W := ⟨_, rfl⟩
            rw [hV12] at a12s g12
            have hbm12 : Below wA.heap.size wA V12 := hbl12.grown g12 hbl12.size (fun j e => by cases e; omega)
            obtain ⟨z0, z1, z2, z3, z4, z5, z6, z7⟩ := a12.facts
            simp only [noA] at z0 z1 z2 z3
            have HV12 := Lib.hid hV12
            have A12 := Lib.hid a12s
            clear a12 hbl12 hV12 g12 a12s
            have HBV := Lib.hid (HBA.out.trans (hbm12.mono HBA.out.size))
            have HTV := Lib.hid (KQ.made HTMA.out (KQ.below HBA.out.size hbm12))
            have hHV := hHA.below hbm12
            obtain ⟨Ac, cc, hcv, hcc⟩ := hHV.commit_slice
            have HHD := Lib.hid (fun (W : World) (hb' : Below V12.heap.size V12 W) => by have h := (hHV.below hb').heap; rw [hcv] at h; exact hhead_any hb Ac n cc W (cell_of_row W hb 1 _ _ _ h))
            have HATV := Lib.hid (hat_any hHV (r := n) (Nat.le_refl _) (by omega))
            clear hHV hcv hHA hbm12
            go_upto_region 23 with fail
            rw [HV12.out]
            clear z0 z1 z2 z3 z4 z5 z6 z7 hW12 hb12
            obtain ⟨y0, y1, y2, y3, -, -, -, -⟩ := A12.out.facts
            simp only at y0 y1 y2 y3
            go_wp2_with fail
            refine (HHD.out V12 (Below.refl _ _)).mono ?_
            rintro e wq ⟨rfl, hwq⟩
            have hwq := hwq.symm
            subst hwq
            go_wp2_with fail
            refine HATV.out.mono ?_
            rintro e wB ⟨vB, lB, rfl, htB, hiB, hlB, hbB⟩
            obtain ⟨AB, cB, rfl⟩ := htB.own.slice
            have HHD2 := Lib.hid (HHD.out wB hbB)
            have htree : TreeAt wB Af cf lf := (((KQ.made HTV.out (KQ.below HBV.out.size hbB)).own).tree fun x hx => ((KQ.made HTV.out (KQ.below HBV.out.size hbB)).bod x hx).at_).2
            have hsa := refsameG_any lB lf AB Af cB cf wB ((htB.own.tree fun x hx => (htB.bod x hx).at_).2) htree hlB (by have := HLF.out; omega)
            rw [decide_eq_true (isTree_unique hiB HIT.out fun _ => rfl)] at hsa
            have HSAM := Lib.hid hsa
            have HBB := Lib.hid (HBV.out.trans (hbB.mono HBV.out.size))
            clear htB hiB hlB hbB htree hsa
            go_wp2_with fail
            refine HHD2.out.mono ?_
            rintro e wq ⟨rfl, hwq⟩
            have hwq := hwq.symm
            subst hwq
            have u1 : ((n : Int) == (n : Int)) = true := by simp
            go_wp2_with fail
            refine HSAM.out.mono ?_
            rintro e wC ⟨rfl, hbC⟩
            have HBC := Lib.hid (HBB.out.trans (hbC.mono HBB.out.size))
            clear hbC
            go_wp2_with fail
            refine (HKN.out wC HBC.out).mono ?_
            rintro e wk ⟨rfl, hbk⟩
            have HBK := Lib.hid (show Below w.heap.size w wk from HBC.out.trans (hbk.mono HBC.out.size))
            clear hbk
            go_wp2_with fail
            go_ret
            exact ⟨rfl, HBK.out⟩
          | false =>
            rcases HR9.out with he | ⟨f, A9, c9, l9, he, rfl, rfl, hstk, hfl⟩
            · have ha : a = ⟨1, 4, 0, qg⟩ ∧ qg ≠ 0 ∧ ∃ nm nv cv k D, HistAt w.heap.size wA hb n nm M nv cv mb k D H := by
                rcases HSA.out with ⟨⟨h, _⟩ | ⟨_, h, _⟩ | ⟨_, _, q, hq, h, e1⟩, nv', cv', k', D', hh⟩ | ⟨_, _, _, nm', nv', cv', k', D', G', ⟨f, h, _⟩, _⟩
                · rw [hlq] at h; cases h
                · cases h
                · rw [HY.out.2.2, ← HBF.out] at h
                  have h3 := apply_bare_err HRF.out h
                  rw [he] at h3
                  cases h3
                  exact ⟨by rw [e1, HY.out.1], hq, _, nv', cv', k', D', hh⟩
                · rw [HY.out.2.2, ← HBF.out] at h
                  obtain ⟨f1, h4, _⟩ := apply_like HRF.out h
                  rw [he] at h4; cases h4
              obtain ⟨rfl, hq0, nmA, nvA, cvA, kA, DA, hHA⟩ := ha
              have u2 : ((qg : Int) == 0) = false := by rw [beq_eq_false_iff_ne]; exact hq0
              have u3 : ((qg : Int) = 0) = False := eq_false hq0
              have u4 : ((qg : Int) != (qg : Int)) = false := by simp
              clear hid hlq hq0
              simp only [AX.v]
              obtain ⟨b12, hb12⟩ : ∃ b, wA.heap.size = b := ⟨_, rfl⟩
              obtain ⟨W12, hW12⟩ : ∃ W, wA.alloc (.cells #[.int .i64 0, .int .i64 0, .int .i64 0, .int .i64 0] 46) = W := ⟨_, rfl⟩
              have a12 : AnsB W12 b12 noA := by unfold AnsB; rw [← hW12, ← hb12]; exact heap_alloc_new _ _
              have hbl12 : Below wA.heap.size wA W12 := by rw [← hW12]; exact (Below.refl _ _).alloc (Nat.le_refl _) _
              obtain ⟨a12s, g12⟩ := a12.store ⟨1, 4, 0, qg⟩
              simp only at a12s g12
              obtain ⟨V12, hV12⟩ : ∃ W, (((W12.setCell ⟨b12, 0, none⟩ (.int .i64 1)).setCell ⟨b12, 1, none⟩ (.int .i64 4)).setCell ⟨b12, 2, none⟩ (.int .i64 0)).setCell ⟨b12, 3, none⟩ (.int .i64 qg) = W := ⟨_, rfl⟩
              rw [hV12] at a12s g12
              have hbm12 : Below wA.heap.size wA V12 := hbl12.grown g12 hbl12.size (fun j e => by cases e; omega)
              obtain ⟨z0, z1, z2, z3, z4, z5, z6, z7⟩ := a12.facts
              simp only [noA] at z0 z1 z2 z3
              have HV12 := Lib.hid hV12
              have A12 := Lib.hid a12s
              clear a12 hbl12 hV12 g12 a12s
              have HBV := Lib.hid (HBA.out.trans (hbm12.mono HBA.out.size))
              have HTV := Lib.hid (KQ.made HTMA.out (KQ.below HBA.out.size hbm12))
              have hHV := hHA.below hbm12
              obtain ⟨Ac, cc, hcv, hcc⟩ := hHV.commit_slice
              have HHD := Lib.hid (fun (W : World) (hb' : Below V12.heap.size V12 W) => by have h := (hHV.below hb').heap; rw [hcv] at h; exact hhead_any hb Ac n cc W (cell_of_row W hb 1 _ _ _ h))
              have HATV := Lib.hid (hat_any hHV (r := n) (Nat.le_refl _) (by omega))
              clear hHV hcv hHA hbm12
              go_upto_region 23 with fail
              rw [HV12.out]
              clear z0 z1 z2 z3 z4 z5 z6 z7 hW12 hb12
              obtain ⟨y0, y1, y2, y3, -, -, -, -⟩ := A12.out.facts
              simp only at y0 y1 y2 y3
              go_wp2_with fail
              refine (HHD.out V12 (Below.refl _ _)).mono ?_
              rintro e wq ⟨rfl, hwq⟩
              have hwq := hwq.symm
              subst hwq
              go_wp2_with fail
              refine HATV.out.mono ?_
              rintro e wB ⟨vB, lB, rfl, htB, hiB, hlB, hbB⟩
              obtain ⟨AB, cB, rfl⟩ := htB.own.slice
              have HHD2 := Lib.hid (HHD.out wB hbB)
              have htree : TreeAt wB Af cf lf := (((KQ.made HTV.out (KQ.below HBV.out.size hbB)).own).tree fun x hx => ((KQ.made HTV.out (KQ.below HBV.out.size hbB)).bod x hx).at_).2
              have hsa := refsameG_any lB lf AB Af cB cf wB ((htB.own.tree fun x hx => (htB.bod x hx).at_).2) htree hlB (by have := HLF.out; omega)
              rw [decide_eq_true (isTree_unique hiB HIT.out fun _ => rfl)] at hsa
              have HSAM := Lib.hid hsa
              have HBB := Lib.hid (HBV.out.trans (hbB.mono HBV.out.size))
              clear htB hiB hlB hbB htree hsa
              go_wp2_with fail
              refine HHD2.out.mono ?_
              rintro e wq ⟨rfl, hwq⟩
              have hwq := hwq.symm
              subst hwq
              have u1 : ((n : Int) == (n : Int)) = true := by simp
              go_wp2_with fail
              refine HSAM.out.mono ?_
              rintro e wC ⟨rfl, hbC⟩
              have HBC := Lib.hid (HBB.out.trans (hbC.mono HBB.out.size))
              clear hbC
              go_wp2_with fail
              refine (HKN.out wC HBC.out).mono ?_
              rintro e wk ⟨rfl, hbk⟩
              have HBK := Lib.hid (show Below w.heap.size w wk from HBC.out.trans (hbk.mono HBC.out.size))
              clear hbk
              go_wp2_with fail
              go_ret
              exact ⟨rfl, HBK.out⟩
            · have ha : a = ⟨1, 1, (n + 1 : Nat), 0⟩ ∧ IsTree ((0, Y.l) :: H) (n + 1) f ∧ ∃ nm M nv cv k D G, HistAt w.heap.size wA hb (n + 1) nm M nv cv mb k D ((G, Y.l) :: H) := by
                rcases HSA.out with ⟨⟨h, _⟩ | ⟨_, h, _⟩ | ⟨_, _, q, hq, h, e1⟩, nv', cv', k', D', hh⟩ | ⟨_, _, e1, nm', nv', cv', k', D', G', ⟨f', h, _⟩, hh⟩
                · rw [hlq] at h; cases h
                · cases h
                · rw [HY.out.2.2, ← HBF.out] at h
                  have h3 := apply_bare_err HRF.out h
                  rw [he] at h3
                  cases h3
                · have hn1 := HNUM.out
                  rw [← HBF.out] at h
                  obtain ⟨f1, h4, h5, _⟩ := commit_tree (G := 0) (L := Y.l) (H := H) (fun e => by rw [e] at hn1; cases hn1) HRF.out (by rw [hn1, Nat.add_sub_cancel]; exact HIT.out) h
                  rw [HY.out.2.2, he] at h4
                  cases h4
                  rw [hn1] at h5
                  exact ⟨by rw [e1, HY.out.1], h5, nm', _, nv', cv', k', D', G', hh⟩
              obtain ⟨rfl, hi9, nmA, MA, nvA, cvA, kA, DA, GA, hHA⟩ := ha
              have HI9 := Lib.hid (show IsTree ((GA, Y.l) :: H) (n + 1) (flsX l9) by rw [hfl]; exact hi9)
              have hr9 : rightT (flsX l9) = true := by rw [hfl]; exact applyT_ok he
              have HL9 := Lib.hid (small_of_right hr9).2
              clear hid hlq hi9 hfl hr9
              simp only [AX.v]
              obtain ⟨r1, hr1⟩ : ∃ r : Int, ((n + 1 : Nat) : Int) = r := ⟨_, rfl⟩
              rw [hr1]
              have HR1 := Lib.hid hr1
              obtain ⟨b12, hb12⟩ : ∃ b, wA.heap.size = b := ⟨_, rfl⟩
              obtain ⟨W12, hW12⟩ : ∃ W, wA.alloc (.cells #[.int .i64 0, .int .i64 0, .int .i64 0, .int .i64 0] 46) = W := ⟨_, rfl⟩
              have a12 : AnsB W12 b12 noA := by unfold AnsB; rw [← hW12, ← hb12]; exact heap_alloc_new _ _
              have hbl12 : Below wA.heap.size wA W12 := by rw [← hW12]; exact (Below.refl _ _).alloc (Nat.le_refl _) _
              obtain ⟨a12s, g12⟩ := a12.store ⟨1, 1, r1, 0⟩
              simp only at a12s g12
              obtain ⟨V12, hV12⟩ : ∃ W, (((W12.setCell ⟨b12, 0, none⟩ (.int .i64 1)).setCell ⟨b12, 1, none⟩ (.int .i64 1)).setCell ⟨b12, 2, none⟩ (.int .i64 r1)).setCell ⟨b12, 3, none⟩ (.int .i64 0) = W := ⟨_, rfl⟩
              rw [hV12] at a12s g12
              have hbm12 : Below wA.heap.size wA V12 := hbl12.grown g12 hbl12.size (fun j e => by cases e; omega)
              obtain ⟨z0, z1, z2, z3, z4, z5, z6, z7⟩ := a12.facts
              simp only [noA] at z0 z1 z2 z3
              have HV12 := Lib.hid hV12
              have A12 := Lib.hid a12s
              clear a12 hbl12 hV12 g12 a12s
              have HBV := Lib.hid (HBA.out.trans (hbm12.mono HBA.out.size))
              have HNOW := Lib.hid (hstk.all V12 ((KQ.rel _).back hstk.le (Below.refl _ _) ⟨Nat.le_trans HKA.out.1 hbm12.size, fun j hj => (hbm12.block j (Nat.lt_of_lt_of_le hj HBA.out.size)).trans (HKA.out.2.1 j hj), fun g cur t ht hg => by
                have h1 := HKA.out.2.2 g cur t ht hg
                exact (hbm12.block g (Array.getElem?_eq_some_iff.1 (h1.trans hg)).1).trans h1⟩))
              have hat := hat_any (hHA.below hbm12) (r := n + 1) (Nat.le_refl _) (by omega)
              rw [hr1] at hat
              have HATV := Lib.hid hat
              clear hHA hstk hbm12 hat hr1
              go_upto_region 23 with fail
              rw [HV12.out]
              clear z0 z1 z2 z3 z4 z5 z6 z7 hW12 hb12
              obtain ⟨y0, y1, y2, y3, -, -, -, -⟩ := A12.out.facts
              simp only at y0 y1 y2 y3
              go_wp2_with fail
              refine HATV.out.mono ?_
              rintro e wB ⟨vB, lB, rfl, htB, hiB, hlB, hbB⟩
              obtain ⟨AB, cB, rfl⟩ := htB.own.slice
              have hsa := refsameG_any lB l9 AB A9 cB c9 wB ((htB.own.tree fun x hx => (htB.bod x hx).at_).2) (HNOW.out.below hbB) hlB (by have := HL9.out; omega)
              rw [decide_eq_true (isTree_unique hiB HI9.out fun _ => rfl)] at hsa
              have HSAM := Lib.hid hsa
              have HBB := Lib.hid (HBV.out.trans (hbB.mono HBV.out.size))
              obtain ⟨yb0, yb1, yb2, -, -, -, -, -⟩ := (show AnsB wB b12 ⟨1, 1, r1, 0⟩ from row_belowQ A12.out hbB).facts
              simp only at yb0 yb1 yb2
              clear htB hiB hlB hbB hsa y0 y1 y2 y3
              have wn1 : IntKind.i64.wrap ((n : Int) + 1) = r1 := by rw [IntWalk.i64_in _ (by omega)]; have := HR1.out; omega
              have u1 : ((r1 : Int) == (r1 : Int)) = true := by simp
              go_wp2_with fail
              refine HSAM.out.mono ?_
              rintro e wC ⟨rfl, hbC⟩
              have HBC := Lib.hid (HBB.out.trans (hbC.mono HBB.out.size))
              clear hbC
              go_wp2_with fail
              refine (HKN.out wC HBC.out).mono ?_
              rintro e wk ⟨rfl, hbk⟩
              have HBK := Lib.hid (show Below w.heap.size w wk from HBC.out.trans (hbk.mono HBC.out.size))
              clear hbk
              go_wp2_with fail
              go_ret
              exact ⟨rfl, HBK.out⟩
end Go.Proofs.YtnkfnmkbfnhmfaaGreatDoor
