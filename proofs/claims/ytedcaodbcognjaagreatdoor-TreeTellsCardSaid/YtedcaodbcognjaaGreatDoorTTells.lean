/-
  The law TreeTells, walked.
-/
import Derived.Test.YtedcaodbcognjaaGreatDoorTRefC
import Derived.Test.YtedcaodbcognjaaGreatDoorTRefB
import Derived.Deep.RegionHeld3
import Derived.BigQuiet
namespace Go.Proofs.YtedcaodbcognjaaGreatDoor
open Go Go.RowKit Go.Shelf Go.Proofs

/-- A slice value that holds these files. -/
def TreeIs (F : List Fl) (v : Value) (W : World) : Prop := ∃ A c l, v = .slice A l.length c ∧ TreeAt W A c l ∧ flsX l = F
theorem TreeIs.below {F : List Fl} (v : Value) (W W' : World) (h : TreeIs F v W) (hb : Below W.heap.size W W') : TreeIs F v W' := by
  obtain ⟨A, c, l, rfl, ht, hf⟩ := h
  exact ⟨A, c, l, rfl, ht.below hb, hf⟩
theorem TreeIs.made {base : Nat} {W : World} {v : Value} {l : List FX} {F : List Fl} (h : TreeMade base W v l) (hf : flsX l = F) : TreeIs F v W := by
  obtain ⟨A, c, rfl⟩ := h.own.slice
  exact ⟨A, c, l, rfl, h.tree.2, hf⟩
theorem TreeIs.keep {base : Nat} {w w' : World} {A : Option Addr} {c : Nat} {v : Value} {m : List FX} {s : ByteArray} (h : FilesOwn base w' v (keepX m s)) (ht : TreeAt w A c m) (hb : Below w.heap.size w w') : TreeIs (dropT (flsX m) s.data.toList) v w' := by
  obtain ⟨A', c', rfl⟩ := h.slice
  exact ⟨A', c', _, rfl, (h.tree fun y hy => (ht.files y (keepX_sub y hy)).below hb).2, keepX_fls _ _⟩
theorem TreeIs.put {base : Nat} {w w' : World} {A : Option Addr} {c : Nat} {v : Value} {m : List FX} {f : FX} (h : FilesOwn base w' v (putX m f)) (ht : TreeAt w A c m) (hf : BytesAt w f.A f.b) (hb : Below w.heap.size w w') : TreeIs (putT (flsX m) f.fl) v w' := by
  obtain ⟨A', c', rfl⟩ := h.slice
  refine ⟨A', c', _, rfl, (h.tree fun y hy => ?_).2, putX_fls _ _⟩
  rcases putX_sub y hy with rfl | hy
  · exact hf.below hb
  · exact (ht.files y hy).below hb
def PathsIs (l : List FX) (v : Value) (W : World) : Prop := ∃ A c, v = .slice A l.length c ∧ PathsAt W A l
theorem PathsIs.below {l : List FX} (v : Value) (W W' : World) (h : PathsIs l v W) (hb : Below W.heap.size W W') : PathsIs l v W' := by
  obtain ⟨A, c, rfl, ht⟩ := h
  exact ⟨A, c, rfl, ht.below hb⟩
def BoolIs (r : Bool) (v : Value) (_ : World) : Prop := v = .bool r
theorem BoolIs.below {r : Bool} (v : Value) (W W' : World) (h : BoolIs r v W) (_ : Below W.heap.size W W') : BoolIs r v W' := h
theorem dropT_le (F : List Fl) (s : Bs) (h : F.length ≤ 90000) : (dropT F s).length ≤ 100000 := Nat.le_trans (List.length_filter_le _ _) (by omega)
theorem putT_le (F : List Fl) (f : Fl) (h : F.length ≤ 90000) : (putT F f).length ≤ 100000 := by
  have h1 := List.length_filter_le (fun x : Fl => !(x.1 == f.1)) F
  obtain ⟨a, b, e1, e2⟩ := insT_split (dropT F f.1) f
  unfold putT
  rw [e2, List.length_append, List.length_cons]
  have h2 : (dropT F f.1).length = a.length + b.length := by rw [e1, List.length_append]
  unfold dropT at h2
  omega
/-- What Get tells. -/
def getR (F : List Fl) (s : Bs) : Bs × Bool := match getT F s with
  | none => ([], false)
  | some b => (b, true)
def Got (w : World) (F : List Fl) (s : Bs) (e : Ending) (w' : World) : Prop := ∃ A c, e = .returned (.tuple #[.slice A (getR F s).1.length c, .bool (getR F s).2]) ∧ BytesAt w' A (getR F s).1 ∧ Below w.heap.size w w'
theorem tget_got (l : List FX) (A : Option Addr) (c : Nat) (s : ByteArray) (w : World) (h : TreeAt w A c l) (hs : SmallX l) :
    Calls Tryz.prog 6 #[.slice A l.length c, .string s] w (Got w (flsX l) s.data.toList) := by
  refine (tget_any l A c s w h hs).mono ?_
  intro e w' hp
  unfold Got getR
  cases hg : getT (flsX l) s.data.toList with
  | none =>
    rw [hg] at hp
    exact ⟨none, 0, hp.1, BytesAt.nil _ _, hp.2⟩
  | some b =>
    rw [hg] at hp
    obtain ⟨A', c', he, hb, hq⟩ := hp
    exact ⟨A', c', he, hb.at_, hq⟩
theorem refget_got (l : List FX) (A : Option Addr) (c : Nat) (s : ByteArray) (w : World) (h : TreeAt w A c l) (hl : l.length ≤ 100000) :
    Calls Tryz.prog 7 #[.slice A l.length c, .string s] w (Got w (flsX l) s.data.toList) := by
  refine (refget_any l A c s w h hl).mono ?_
  intro e w' hp
  unfold Got getR
  rcases hp with ⟨hg, he, hq⟩ | ⟨x, hx, hg, he, hq⟩
  · rw [hg]
    exact ⟨none, 0, he, BytesAt.nil _ _, hq⟩
  · rw [hg]
    exact ⟨x.A, x.c, he, (h.files x hx).below hq, hq⟩

set_option maxRecDepth 100000 in
set_option maxHeartbeats 16000000 in
theorem ttells_any (t u : List FX) (f : FX) (g : ByteArray) (A B : Option Addr) (ca cb : Nat) (w : World) (ht : TreeAt w A ca t) (hu : TreeAt w B cb u) (zt : BigX t) (zu : BigX u) (hf : FileOk w f) (hg : g.size ≤ 281474976710656) (hm : MaxOk w) :
    Calls Tryz.prog 3 #[.slice A t.length ca, .slice B u.length cb, .agg #[.string f.p, .slice f.A f.b.length f.c], .string g] w fun e w' => e = .returned (.bool true) ∧ Below w.heap.size w w' := by
  obtain ⟨fb, _, _, fp, fl⟩ := hf
  unfold reachBytes at fp fl
  go_enter Tryz.func3, Tryz.ntmps3
  go_wp2_with fail
  obtain ⟨W, hW⟩ : ∃ W, w.alloc (.cells #[.string f.p, .slice f.A f.b.length f.c] 26) = W := ⟨_, rfl⟩
  have hb0 : Below w.heap.size w W := by rw [← hW]; exact below_box _ _
  have xf0 : BoxF W w.heap.size f := by rw [← hW]; exact BoxF.new w f _
  rw [hW]
  clear hW
  refine (lawsmall_any t A ca _ (ht.below hb0) zt).mono ?_
  rintro e w1 ⟨rfl, hq1⟩
  have hb1 := hb0.trans (hq1.mono hb0.size)
  have xf1 := xf0.below hq1
  clear hq1
  cases sa : smallL t with
  | false =>
    clear sa
    go_wp2_with fail
    refine (lawknown_any _ (hm.below hb1)).mono ?_
    rintro e wz ⟨rfl, hz⟩
    have HZ := Lib.hid (hb1.trans (hz.mono hb1.size)); clear hz
    go_wp2_with fail
    go_ret
    exact ⟨rfl, HZ.out⟩
  | true =>
    have tt := (smallL_tiny sa)
    clear sa
    go_wp2_with fail
    refine (lawsmall_any u B cb _ (hu.below hb1) zu).mono ?_
    rintro e w2 ⟨rfl, hq2⟩
    have hb2 := hb1.trans (hq2.mono hb1.size)
    have xf2 := xf1.below hq2
    clear hq2
    have kf0 := xf2.c0
    have kf1 := xf2.c1
    have s1 : IntKind.i64.wrap ((f.p.size : Int) + (f.b.length : Int)) = (f.p.size : Int) + (f.b.length : Int) := IntWalk.i64_in _ (by omega)
    have s2 : IntKind.i64.wrap ((f.p.size : Int) + (f.b.length : Int) + (g.size : Int)) = (f.p.size : Int) + (f.b.length : Int) + (g.size : Int) := IntWalk.i64_in _ (by omega)
    cases sb : smallL u with
    | false =>
      clear sb
      go_wp2_with fail
      refine (lawknown_any _ (hm.below hb2)).mono ?_
      rintro e wz ⟨rfl, hz⟩
      have HZ := Lib.hid (hb2.trans (hz.mono hb2.size)); clear hz
      go_wp2_with fail
      go_ret
      exact ⟨rfl, HZ.out⟩
    | true =>
      have tu := (smallL_tiny sb)
      clear sb
      by_cases hz : 500 < f.p.size + f.b.length + g.size
      · have hz2 : (500 : Int) < (f.p.size : Int) + (f.b.length : Int) + (g.size : Int) := by omega
        go_wp2_with fail
        refine (lawknown_any _ (hm.below hb2)).mono ?_
        rintro e wz ⟨rfl, hz⟩
        have HZ := Lib.hid (hb2.trans (hz.mono hb2.size)); clear hz
        go_wp2_with fail
        go_ret
        exact ⟨rfl, HZ.out⟩
      · have hz2 : ¬ (500 : Int) < (f.p.size : Int) + (f.b.length : Int) + (g.size : Int) := by omega
        have st := tt.sized
        have htl := st.len
        have hul := tu.len
        have smt : SmallX t := st.small (by omega) (by omega)
        have HG3 := tget_got t A ca f.p w2 (ht.below hb2) smt
        go_wp2_with fail
        refine HG3.mono ?_
        rintro e w3 ⟨A3, c3, rfl, b3, hq3⟩
        have hb3 := hb2.trans (hq3.mono hb2.size)
        have xf3 := xf2.below hq3
        have kf0 := xf3.c0
        have kf1 := xf3.c1
        have HG4 := refget_got t A ca f.p w3 (ht.below hb3) (by omega)
        clear HG3 hq3 hz2 s1 s2 fp fl
        go_wp2_with fail
        refine HG4.mono ?_
        rintro e w4 ⟨A4, c4, rfl, b4, hq4⟩
        have hb4 := hb3.trans (hq4.mono hb3.size)
        have xf4 := xf3.below hq4
        have b3 := b3.below hq4
        clear HG4 hq4
        generalize (getR (flsX t) f.p.data.toList).1 = gb at *
        generalize (getR (flsX t) f.p.data.toList).2 = gr at *
        have hbd := hb4.trans ((below_drew1 w4).mono hb4.size)
        have xfd := xf4.below (below_drew1 w4)
        have bd3 := b3.below (below_drew1 w4)
        have bd4 := b4.below (below_drew1 w4)
        have HTD := Lib.hid (ht.below hbd)
        have HUD := Lib.hid (hu.below hbd)
        have HFD := Lib.hid (fb.below hbd)
        have HMD := Lib.hid (hm.below hbd)
        have HBD := Lib.hid hbd
        have HB3 := Lib.hid bd3
        have HB4 := Lib.hid bd4
        have HSM := Lib.hid smt
        have HTT := Lib.hid tt.paths
        clear hb0 hb1 hb2 hb3 hb4 xf0 xf1 xf2 xf3 b3 b4 hbd bd3 bd4 smt
        go_wp2_with fail
        refine wp_region_held_drew (S := fun w' => w'.cell? ⟨w.heap.size, 0, none⟩ = some (.string f.p) ∧ w'.cell? ⟨w.heap.size, 1, none⟩ = some (.slice f.A f.b.length f.c)) (by kernel_rfl) ⟨xfd.c0, xfd.c1⟩ (fun hHeld => ?_)
        have hI0 : BoxF w4.drew w.heap.size f ∧ Below w4.drew.heap.size w4.drew w4.drew := ⟨xfd, Below.refl _ _⟩
        generalize w4.drew = W0 at *
        refine wpAnyH_take (i := 0) (v := ?vk0) rfl (by kernel_rfl) (by kernel_rfl) (by kernel_rfl) (fun _ _ _ h => h) (Or.inl ⟨by rfl, ?yk0⟩) (by assumption) ?rk0
        case yk0 =>
          intro w hSw
          (try dsimp only at hSw)
          go_simp
          first | done | with_reducible rfl
        try simp only [Act.put, List.getElem_toArray, List.getElem_cons_zero, List.setIfInBounds_toArray, List.set_cons_zero, List.set_cons_succ]
        refine wpAnyH_take (i := 2) (v := ?vk2) rfl (by kernel_rfl) (by kernel_rfl) (by kernel_rfl) (fun _ _ _ h => h) (Or.inl ⟨by rfl, ?yk2⟩) (by assumption) ?rk2
        case yk2 =>
          intro w hSw
          (try dsimp only at hSw)
          go_simp
          first | done | with_reducible rfl
        try simp only [Act.put, List.getElem_toArray, List.getElem_cons_zero, List.getElem_cons_succ, List.setIfInBounds_toArray, List.set_cons_zero, List.set_cons_succ]
        refine wpAnyH_ready (rs := [1]) (by kernel_rfl) (by simp) ?_
        refine AllReadyH.cons rfl (fun K hK => ?_) AllReadyH.nil
        go_simp
        refine (tright_any t A ca W0 (HTD.out.below hI0.2) HTT.out (HMD.out.below hI0.2)).mono ?_
        rintro e W1 ⟨rfl, hq⟩
        have hI1 : BoxF W1 w.heap.size f ∧ Below W0.heap.size W0 W1 := ⟨hI0.1.below hq, hI0.2.trans (hq.mono hI0.2.size)⟩
        clear hq
        go_wp2_with fail
        refine hK.out _ _ ⟨hI1.1.c0, hI1.1.c1⟩ (fun hHeld => ?_)
        clear hK K
        try simp only [Act.put, List.getElem_toArray, List.getElem_cons_zero, List.getElem_cons_succ, List.setIfInBounds_toArray, List.set_cons_zero, List.set_cons_succ]
        refine wpAnyH_ready (rs := [3]) (by kernel_rfl) (by simp) ?_
        refine AllReadyH.cons rfl (fun K hK => ?_) AllReadyH.nil
        go_simp
        refine (reftright_any t A ca W1 (HTD.out.below hI1.2) HSM.out).mono ?_
        rintro e W2 ⟨rfl, hq⟩
        have hI2 : BoxF W2 w.heap.size f ∧ Below W0.heap.size W0 W2 := ⟨hI1.1.below hq, hI1.2.trans (hq.mono hI1.2.size)⟩
        clear hq
        go_wp2_with fail
        refine hK.out _ _ ⟨hI2.1.c0, hI2.1.c1⟩ (fun hHeld => ?_)
        clear hK K
        try simp only [Act.put, List.getElem_toArray, List.getElem_cons_zero, List.getElem_cons_succ, List.setIfInBounds_toArray, List.set_cons_zero, List.set_cons_succ]
        refine wpAnyH_take (i := 4) (v := ?vk4) rfl (by kernel_rfl) (by kernel_rfl) (by kernel_rfl) (fun _ _ _ h => h) (Or.inl ⟨by rfl, ?yk4⟩) (by assumption) ?rk4
        case yk4 =>
          intro w hSw
          (try dsimp only at hSw)
          go_simp
          first | done | with_reducible rfl
        try simp only [Act.put, List.getElem_toArray, List.getElem_cons_zero, List.getElem_cons_succ, List.setIfInBounds_toArray, List.set_cons_zero, List.set_cons_succ]
        refine wpAnyH_take (i := 5) (v := ?vk5) rfl (by kernel_rfl) (by kernel_rfl) (by kernel_rfl) (fun _ _ _ h => h) (Or.inl ⟨by rfl, ?yk5⟩) (by assumption) ?rk5
        case yk5 =>
          intro w hSw
          (try dsimp only at hSw)
          go_simp
          first | done | with_reducible rfl
        try simp only [Act.put, List.getElem_toArray, List.getElem_cons_zero, List.getElem_cons_succ, List.setIfInBounds_toArray, List.set_cons_zero, List.set_cons_succ]
        refine wpAnyH_take (i := 6) (v := ?vk6) rfl (by kernel_rfl) (by kernel_rfl) (by kernel_rfl) (fun _ _ _ h => h) (Or.inl ⟨by rfl, ?yk6⟩) (by assumption) ?rk6
        case yk6 =>
          intro w hSw
          (try dsimp only at hSw)
          go_simp
          first | done | with_reducible rfl
        try simp only [Act.put, List.getElem_toArray, List.getElem_cons_zero, List.getElem_cons_succ, List.setIfInBounds_toArray, List.set_cons_zero, List.set_cons_succ]
        refine wpAnyH_take (i := 7) (v := ?vk7) rfl (by kernel_rfl) (by kernel_rfl) (by kernel_rfl) (fun _ _ _ h => h) (Or.inl ⟨by rfl, ?yk7⟩) (by assumption) ?rk7
        case yk7 =>
          intro w hSw
          (try dsimp only at hSw)
          go_simp
          first | done | with_reducible rfl
        try simp only [Act.put, List.getElem_toArray, List.getElem_cons_zero, List.getElem_cons_succ, List.setIfInBounds_toArray, List.set_cons_zero, List.set_cons_succ]
        refine wpAnyH_ready (rs := [8]) (by kernel_rfl) (by simp) ?_
        refine AllReadyH.cons rfl (fun K hK => ?_) AllReadyH.nil
        go_simp
        refine (samebytes_any gb gb A3 A4 c3 c4 W2 (HB3.out.below hI2.2) (HB4.out.below hI2.2)).mono ?_
        rw [beq_self_eq_true]
        rintro e W3 ⟨rfl, hq⟩
        have hI3 : BoxF W3 w.heap.size f ∧ Below W0.heap.size W0 W3 := ⟨hI2.1.below hq, hI2.2.trans (hq.mono hI2.2.size)⟩
        clear hq
        go_wp2_with fail
        refine hK.out _ _ ⟨hI3.1.c0, hI3.1.c1⟩ (fun hHeld => ?_)
        clear hK K
        try simp only [Act.put, List.getElem_toArray, List.getElem_cons_zero, List.getElem_cons_succ, List.setIfInBounds_toArray, List.set_cons_zero, List.set_cons_succ]
        refine wpAnyH_take (i := 9) (v := ?vk9) rfl (by kernel_rfl) (by kernel_rfl) (by kernel_rfl) (fun _ _ _ h => h) (Or.inl ⟨by rfl, ?yk9⟩) (by assumption) ?rk9
        case yk9 =>
          intro w hSw
          (try dsimp only at hSw)
          go_simp
          first | done | with_reducible rfl
        try simp only [Act.put, List.getElem_toArray, List.getElem_cons_zero, List.getElem_cons_succ, List.setIfInBounds_toArray, List.set_cons_zero, List.set_cons_succ]
        refine wpAnyH_take (i := 10) (v := ?vk10) rfl (by kernel_rfl) (by kernel_rfl) (by kernel_rfl) (fun _ _ _ h => h) (Or.inl ⟨by rfl, ?yk10⟩) (by assumption) ?rk10
        case yk10 =>
          intro w hSw
          (try dsimp only at hSw)
          go_simp
          first | done | with_reducible rfl
        try simp only [Act.put, List.getElem_toArray, List.getElem_cons_zero, List.getElem_cons_succ, List.setIfInBounds_toArray, List.set_cons_zero, List.set_cons_succ]
        refine wpAnyH_take (i := 11) (v := ?vk11) rfl (by kernel_rfl) (by kernel_rfl) (by kernel_rfl) (fun _ _ _ h => h) (Or.inl ⟨by rfl, ?yk11⟩) (by assumption) ?rk11
        case yk11 =>
          intro w hSw
          (try dsimp only at hSw)
          go_simp
          first | done | with_reducible rfl
        try simp only [Act.put, List.getElem_toArray, List.getElem_cons_zero, List.getElem_cons_succ, List.setIfInBounds_toArray, List.set_cons_zero, List.set_cons_succ]
        refine wpAnyH_take (i := 12) (v := ?vk12) rfl (by kernel_rfl) (by kernel_rfl) (by kernel_rfl) (fun _ _ _ h => h) (Or.inl ⟨by rfl, ?yk12⟩) (by assumption) ?rk12
        case yk12 =>
          intro w hSw
          (try dsimp only at hSw)
          go_simp
          first | done | with_reducible rfl
        try simp only [Act.put, List.getElem_toArray, List.getElem_cons_zero, List.getElem_cons_succ, List.setIfInBounds_toArray, List.set_cons_zero, List.set_cons_succ]
        refine wpAnyH_take (i := 13) (v := ?vk13) rfl (by kernel_rfl) (by kernel_rfl) (by kernel_rfl) (fun _ _ _ h => h) (Or.inl ⟨by rfl, ?yk13⟩) (by assumption) ?rk13
        case yk13 =>
          intro w hSw
          (try dsimp only at hSw)
          go_simp
          first | done | with_reducible rfl
        try simp only [Act.put, List.getElem_toArray, List.getElem_cons_zero, List.getElem_cons_succ, List.setIfInBounds_toArray, List.set_cons_zero, List.set_cons_succ]
        refine wpAnyH_take (i := 14) (v := ?vk14) rfl (by kernel_rfl) (by kernel_rfl) (by kernel_rfl) (fun _ _ _ h => h) (Or.inl ⟨by rfl, ?yk14⟩) (by assumption) ?rk14
        case yk14 =>
          intro w hSw
          (try dsimp only at hSw)
          go_simp
          first | done | with_reducible rfl
        try simp only [Act.put, List.getElem_toArray, List.getElem_cons_zero, List.getElem_cons_succ, List.setIfInBounds_toArray, List.set_cons_zero, List.set_cons_succ]
        refine wpAnyH_take (i := 15) (v := ?vk15) rfl (by kernel_rfl) (by kernel_rfl) (by kernel_rfl) (fun _ _ _ h => h) (Or.inl ⟨by rfl, ?yk15⟩) (by assumption) ?rk15
        case yk15 =>
          intro w hSw
          (try dsimp only at hSw)
          go_simp
          first | done | with_reducible rfl
        try simp only [Act.put, List.getElem_toArray, List.getElem_cons_zero, List.getElem_cons_succ, List.setIfInBounds_toArray, List.set_cons_zero, List.set_cons_succ]
        refine wpAnyH_take (i := 16) (v := ?vk16) rfl (by kernel_rfl) (by kernel_rfl) (by kernel_rfl) (fun _ _ _ h => h) (Or.inl ⟨by rfl, ?yk16⟩) (by assumption) ?rk16
        case yk16 =>
          intro w hSw
          (try dsimp only at hSw)
          go_simp
          first | done | with_reducible rfl
        try simp only [Act.put, List.getElem_toArray, List.getElem_cons_zero, List.getElem_cons_succ, List.setIfInBounds_toArray, List.set_cons_zero, List.set_cons_succ]
        refine wpAnyH_take (i := 17) (v := ?vk17) rfl (by kernel_rfl) (by kernel_rfl) (by kernel_rfl) (fun _ _ _ h => h) (Or.inl ⟨by rfl, ?yk17⟩) (by assumption) ?rk17
        case yk17 =>
          intro w hSw
          (try dsimp only at hSw)
          go_simp
          first | done | with_reducible rfl
        try simp only [Act.put, List.getElem_toArray, List.getElem_cons_zero, List.getElem_cons_succ, List.setIfInBounds_toArray, List.set_cons_zero, List.set_cons_succ]
        refine wpAnyH_take (i := 18) (v := ?vk18) rfl (by kernel_rfl) (by kernel_rfl) (by kernel_rfl) (fun _ _ _ h => h) (Or.inl ⟨by rfl, ?yk18⟩) (by assumption) ?rk18
        case yk18 =>
          intro w hSw
          (try dsimp only at hSw)
          go_simp
          first | done | with_reducible rfl
        try simp only [Act.put, List.getElem_toArray, List.getElem_cons_zero, List.getElem_cons_succ, List.setIfInBounds_toArray, List.set_cons_zero, List.set_cons_succ]
        refine wpAnyH_take (i := 20) (v := ?vk20) rfl (by kernel_rfl) (by kernel_rfl) (by kernel_rfl) (fun _ _ _ h => h) (Or.inl ⟨by rfl, ?yk20⟩) (by assumption) ?rk20
        case yk20 =>
          intro w hSw
          (try dsimp only at hSw)
          go_simp
          first | done | with_reducible rfl
        try simp only [Act.put, List.getElem_toArray, List.getElem_cons_zero, List.getElem_cons_succ, List.setIfInBounds_toArray, List.set_cons_zero, List.set_cons_succ]
        refine wpAnyH_take (i := 21) (v := ?vk21) rfl (by kernel_rfl) (by kernel_rfl) (by kernel_rfl) (fun _ _ _ h => h) (Or.inl ⟨by rfl, ?yk21⟩) (by assumption) ?rk21
        case yk21 =>
          intro w hSw
          (try dsimp only at hSw)
          go_simp
          first | done | with_reducible rfl
        try simp only [Act.put, List.getElem_toArray, List.getElem_cons_zero, List.getElem_cons_succ, List.setIfInBounds_toArray, List.set_cons_zero, List.set_cons_succ]
        refine wpAnyH_take (i := 22) (v := ?vk22) rfl (by kernel_rfl) (by kernel_rfl) (by kernel_rfl) (fun _ _ _ h => h) (Or.inl ⟨by rfl, ?yk22⟩) (by assumption) ?rk22
        case yk22 =>
          intro w hSw
          (try dsimp only at hSw)
          go_simp
          first | done | with_reducible rfl
        try simp only [Act.put, List.getElem_toArray, List.getElem_cons_zero, List.getElem_cons_succ, List.setIfInBounds_toArray, List.set_cons_zero, List.set_cons_succ]
        refine wpAnyH_ready (rs := [19]) (by kernel_rfl) (by simp) ?_
        refine AllReadyH.cons rfl (fun K hK => ?_) AllReadyH.nil
        go_simp
        refine (tdrop_any t A ca f.p W3 (HTD.out.below hI3.2) HSM.out).mono ?_
        rintro e W4 ⟨v', l', rfl, hmd, hfd, hq⟩
        have hI4 : BoxF W4 w.heap.size f ∧ Below W0.heap.size W0 W4 := ⟨hI3.1.below hq, hI3.2.trans (hq.mono hI3.2.size)⟩
        have hP := TreeIs.made hmd hfd
        obtain ⟨Ai, ci, li, rfl, ti, fi⟩ := hP
        clear hq
        go_wp2_with fail
        refine hK.out _ _ ⟨hI4.1.c0, hI4.1.c1⟩ (fun hHeld => ?_)
        clear hK K
        try simp only [Act.put, List.getElem_toArray, List.getElem_cons_zero, List.getElem_cons_succ, List.setIfInBounds_toArray, List.set_cons_zero, List.set_cons_succ]
        refine wpAnyH_ready (rs := [23]) (by kernel_rfl) (by simp) ?_
        refine AllReadyH.cons rfl (fun K hK => ?_) AllReadyH.nil
        go_simp
        refine (refdrop_any t A ca f.p W4 (HTD.out.below hI4.2) (by omega)).mono ?_
        rintro e W5 ⟨v', rfl, hmd, hq⟩
        have hI5 : BoxF W5 w.heap.size f ∧ Below W0.heap.size W0 W5 := ⟨hI4.1.below hq, hI4.2.trans (hq.mono hI4.2.size)⟩
        have hP := TreeIs.keep hmd (HTD.out.below hI4.2) hq
        obtain ⟨Aj, cj, lj, rfl, tj, fj⟩ := hP
        have ti := ti.below hq
        clear hq
        go_wp2_with fail
        refine hK.out _ _ ⟨hI5.1.c0, hI5.1.c1⟩ (fun hHeld => ?_)
        clear hK K
        try simp only [Act.put, List.getElem_toArray, List.getElem_cons_zero, List.getElem_cons_succ, List.setIfInBounds_toArray, List.set_cons_zero, List.set_cons_succ]
        have li_le : li.length ≤ 100000 := by have := congrArg List.length fi; rw [flsX_length] at this; rw [this]; exact dropT_le _ _ (by rw [flsX_length]; omega)
        have lj_le : lj.length ≤ 100000 := by have := congrArg List.length fj; rw [flsX_length] at this; rw [this]; exact dropT_le _ _ (by rw [flsX_length]; omega)
        refine wpAnyH_ready (rs := [24]) (by kernel_rfl) (by simp) ?_
        refine AllReadyH.cons rfl (fun K hK => ?_) AllReadyH.nil
        go_simp
        refine (refsame_any li lj Ai Aj ci cj W5 ti tj li_le lj_le).mono ?_
        rw [decide_eq_true (fi.trans fj.symm)]
        rintro e W6 ⟨rfl, hq⟩
        have hI6 : BoxF W6 w.heap.size f ∧ Below W0.heap.size W0 W6 := ⟨hI5.1.below hq, hI5.2.trans (hq.mono hI5.2.size)⟩
        clear hq
        go_wp2_with fail
        refine hK.out _ _ ⟨hI6.1.c0, hI6.1.c1⟩ (fun hHeld => ?_)
        clear hK K
        try simp only [Act.put, List.getElem_toArray, List.getElem_cons_zero, List.getElem_cons_succ, List.setIfInBounds_toArray, List.set_cons_zero, List.set_cons_succ]
        clear ti tj fi fj li_le lj_le
        refine wpAnyH_take (i := 25) (v := ?vk25) rfl (by kernel_rfl) (by kernel_rfl) (by kernel_rfl) (fun _ _ _ h => h) (Or.inl ⟨by rfl, ?yk25⟩) (by assumption) ?rk25
        case yk25 =>
          intro w hSw
          (try dsimp only at hSw)
          go_simp
          first | done | with_reducible rfl
        try simp only [Act.put, List.getElem_toArray, List.getElem_cons_zero, List.getElem_cons_succ, List.setIfInBounds_toArray, List.set_cons_zero, List.set_cons_succ]
        refine wpAnyH_take (i := 26) (v := ?vk26) rfl (by kernel_rfl) (by kernel_rfl) (by kernel_rfl) (fun _ _ _ h => h) (Or.inl ⟨by rfl, ?yk26⟩) (by assumption) ?rk26
        case yk26 =>
          intro w hSw
          (try dsimp only at hSw)
          go_simp
          first | done | with_reducible rfl
        try simp only [Act.put, List.getElem_toArray, List.getElem_cons_zero, List.getElem_cons_succ, List.setIfInBounds_toArray, List.set_cons_zero, List.set_cons_succ]
        refine wpAnyH_take (i := 27) (v := ?vk27) rfl (by kernel_rfl) (by kernel_rfl) (by kernel_rfl) (fun _ _ _ h => h) (Or.inl ⟨by rfl, ?yk27⟩) (by assumption) ?rk27
        case yk27 =>
          intro w hSw
          (try dsimp only at hSw)
          go_simp
          first | done | with_reducible rfl
        try simp only [Act.put, List.getElem_toArray, List.getElem_cons_zero, List.getElem_cons_succ, List.setIfInBounds_toArray, List.set_cons_zero, List.set_cons_succ]
        refine wpAnyH_take (i := 28) (v := ?vk28) rfl (by kernel_rfl) (by kernel_rfl) (by kernel_rfl) (fun _ _ _ h => h) (Or.inl ⟨by rfl, ?yk28⟩) (by assumption) ?rk28
        case yk28 =>
          intro w hSw
          (try dsimp only at hSw)
          go_simp
          first | done | with_reducible rfl
        try simp only [Act.put, List.getElem_toArray, List.getElem_cons_zero, List.getElem_cons_succ, List.setIfInBounds_toArray, List.set_cons_zero, List.set_cons_succ]
        refine wpAnyH_take (i := 30) (v := ?vk30) rfl (by kernel_rfl) (by kernel_rfl) (by kernel_rfl) (fun _ _ _ h => h) (Or.inl ⟨by rfl, ?yk30⟩) (by assumption) ?rk30
        case yk30 =>
          intro w hSw
          (try dsimp only at hSw)
          go_simp
          first | done | with_reducible rfl
        try simp only [Act.put, List.getElem_toArray, List.getElem_cons_zero, List.getElem_cons_succ, List.setIfInBounds_toArray, List.set_cons_zero, List.set_cons_succ]
        refine wpAnyH_take (i := 31) (v := ?vk31) rfl (by kernel_rfl) (by kernel_rfl) (by kernel_rfl) (fun _ _ _ h => h) (Or.inl ⟨by rfl, ?yk31⟩) (by assumption) ?rk31
        case yk31 =>
          intro w hSw
          (try dsimp only at hSw)
          go_simp
          first | done | with_reducible rfl
        try simp only [Act.put, List.getElem_toArray, List.getElem_cons_zero, List.getElem_cons_succ, List.setIfInBounds_toArray, List.set_cons_zero, List.set_cons_succ]
        refine wpAnyH_ready (rs := [29]) (by kernel_rfl) (by simp) ?_
        refine AllReadyH.cons rfl (fun K hK => ?_) AllReadyH.nil
        go_simp
        refine (tput_any t A ca f W6 (HTD.out.below hI6.2) HSM.out (by omega) (HFD.out.below hI6.2) (by omega)).mono ?_
        rintro e W7 ⟨v', l', rfl, hmd, hfd, hq⟩
        have hI7 : BoxF W7 w.heap.size f ∧ Below W0.heap.size W0 W7 := ⟨hI6.1.below hq, hI6.2.trans (hq.mono hI6.2.size)⟩
        have hP := TreeIs.made hmd hfd
        obtain ⟨Am, cm, lm, rfl, tm, fm⟩ := hP
        clear hq
        go_wp2_with fail
        refine hK.out _ _ ⟨hI7.1.c0, hI7.1.c1⟩ (fun hHeld => ?_)
        clear hK K
        try simp only [Act.put, List.getElem_toArray, List.getElem_cons_zero, List.getElem_cons_succ, List.setIfInBounds_toArray, List.set_cons_zero, List.set_cons_succ]
        refine wpAnyH_ready (rs := [32]) (by kernel_rfl) (by simp) ?_
        refine AllReadyH.cons rfl (fun K hK => ?_) AllReadyH.nil
        go_simp
        refine (refput_any t A ca f W7 (HTD.out.below hI7.2) (by omega)).mono ?_
        rintro e W8 ⟨v', rfl, hmd, hq⟩
        have hI8 : BoxF W8 w.heap.size f ∧ Below W0.heap.size W0 W8 := ⟨hI7.1.below hq, hI7.2.trans (hq.mono hI7.2.size)⟩
        have hP := TreeIs.put hmd (HTD.out.below hI7.2) (HFD.out.below hI7.2) hq
        obtain ⟨An, cn, ln, rfl, tn, fn⟩ := hP
        have tm := tm.below hq
        clear hq
        go_wp2_with fail
        refine hK.out _ _ ⟨hI8.1.c0, hI8.1.c1⟩ (fun hHeld => ?_)
        clear hK K
        try simp only [Act.put, List.getElem_toArray, List.getElem_cons_zero, List.getElem_cons_succ, List.setIfInBounds_toArray, List.set_cons_zero, List.set_cons_succ]
        have lm_le : lm.length ≤ 100000 := by have := congrArg List.length fm; rw [flsX_length] at this; rw [this]; exact putT_le _ _ (by rw [flsX_length]; omega)
        have ln_le : ln.length ≤ 100000 := by have := congrArg List.length fn; rw [flsX_length] at this; rw [this]; exact putT_le _ _ (by rw [flsX_length]; omega)
        refine wpAnyH_ready (rs := [33]) (by kernel_rfl) (by simp) ?_
        refine AllReadyH.cons rfl (fun K hK => ?_) AllReadyH.nil
        go_simp
        refine (refsame_any lm ln Am An cm cn W8 tm tn lm_le ln_le).mono ?_
        rw [decide_eq_true (fm.trans fn.symm)]
        rintro e W9 ⟨rfl, hq⟩
        have hI9 : BoxF W9 w.heap.size f ∧ Below W0.heap.size W0 W9 := ⟨hI8.1.below hq, hI8.2.trans (hq.mono hI8.2.size)⟩
        clear hq
        go_wp2_with fail
        refine hK.out _ _ ⟨hI9.1.c0, hI9.1.c1⟩ (fun hHeld => ?_)
        clear hK K
        try simp only [Act.put, List.getElem_toArray, List.getElem_cons_zero, List.getElem_cons_succ, List.setIfInBounds_toArray, List.set_cons_zero, List.set_cons_succ]
        clear tm tn fm fn lm_le ln_le
        refine wpAnyH_take (i := 34) (v := ?vk34) rfl (by kernel_rfl) (by kernel_rfl) (by kernel_rfl) (fun _ _ _ h => h) (Or.inl ⟨by rfl, ?yk34⟩) (by assumption) ?rk34
        case yk34 =>
          intro w hSw
          (try dsimp only at hSw)
          go_simp
          first | done | with_reducible rfl
        try simp only [Act.put, List.getElem_toArray, List.getElem_cons_zero, List.getElem_cons_succ, List.setIfInBounds_toArray, List.set_cons_zero, List.set_cons_succ]
        refine wpAnyH_take (i := 35) (v := ?vk35) rfl (by kernel_rfl) (by kernel_rfl) (by kernel_rfl) (fun _ _ _ h => h) (Or.inl ⟨by rfl, ?yk35⟩) (by assumption) ?rk35
        case yk35 =>
          intro w hSw
          (try dsimp only at hSw)
          go_simp
          first | done | with_reducible rfl
        try simp only [Act.put, List.getElem_toArray, List.getElem_cons_zero, List.getElem_cons_succ, List.setIfInBounds_toArray, List.set_cons_zero, List.set_cons_succ]
        refine wpAnyH_take (i := 36) (v := ?vk36) rfl (by kernel_rfl) (by kernel_rfl) (by kernel_rfl) (fun _ _ _ h => h) (Or.inl ⟨by rfl, ?yk36⟩) (by assumption) ?rk36
        case yk36 =>
          intro w hSw
          (try dsimp only at hSw)
          go_simp
          first | done | with_reducible rfl
        try simp only [Act.put, List.getElem_toArray, List.getElem_cons_zero, List.getElem_cons_succ, List.setIfInBounds_toArray, List.set_cons_zero, List.set_cons_succ]
        refine wpAnyH_take (i := 37) (v := ?vk37) rfl (by kernel_rfl) (by kernel_rfl) (by kernel_rfl) (fun _ _ _ h => h) (Or.inl ⟨by rfl, ?yk37⟩) (by assumption) ?rk37
        case yk37 =>
          intro w hSw
          (try dsimp only at hSw)
          go_simp
          first | done | with_reducible rfl
        try simp only [Act.put, List.getElem_toArray, List.getElem_cons_zero, List.getElem_cons_succ, List.setIfInBounds_toArray, List.set_cons_zero, List.set_cons_succ]
        refine wpAnyH_take (i := 39) (v := ?vk39) rfl (by kernel_rfl) (by kernel_rfl) (by kernel_rfl) (fun _ _ _ h => h) (Or.inl ⟨by rfl, ?yk39⟩) (by assumption) ?rk39
        case yk39 =>
          intro w hSw
          (try dsimp only at hSw)
          go_simp
          first | done | with_reducible rfl
        try simp only [Act.put, List.getElem_toArray, List.getElem_cons_zero, List.getElem_cons_succ, List.setIfInBounds_toArray, List.set_cons_zero, List.set_cons_succ]
        refine wpAnyH_take (i := 40) (v := ?vk40) rfl (by kernel_rfl) (by kernel_rfl) (by kernel_rfl) (fun _ _ _ h => h) (Or.inl ⟨by rfl, ?yk40⟩) (by assumption) ?rk40
        case yk40 =>
          intro w hSw
          (try dsimp only at hSw)
          go_simp
          first | done | with_reducible rfl
        try simp only [Act.put, List.getElem_toArray, List.getElem_cons_zero, List.getElem_cons_succ, List.setIfInBounds_toArray, List.set_cons_zero, List.set_cons_succ]
        refine wpAnyH_ready (rs := [38]) (by kernel_rfl) (by simp) ?_
        refine AllReadyH.cons rfl (fun K hK => ?_) AllReadyH.nil
        go_simp
        refine (tselect_any t A ca g W9 (HTD.out.below hI9.2) HSM.out (by omega) (HMD.out.below hI9.2)).mono ?_
        rintro e W10 ⟨v', rfl, hmd, hq⟩
        have hI10 : BoxF W10 w.heap.size f ∧ Below W0.heap.size W0 W10 := ⟨hI9.1.below hq, hI9.2.trans (hq.mono hI9.2.size)⟩
        obtain ⟨As, cs, rfl, ps⟩ := hmd.paths
        clear hq
        go_wp2_with fail
        refine hK.out _ _ ⟨hI10.1.c0, hI10.1.c1⟩ (fun hHeld => ?_)
        clear hK K
        try simp only [Act.put, List.getElem_toArray, List.getElem_cons_zero, List.getElem_cons_succ, List.setIfInBounds_toArray, List.set_cons_zero, List.set_cons_succ]
        refine wpAnyH_ready (rs := [41]) (by kernel_rfl) (by simp) ?_
        refine AllReadyH.cons rfl (fun K hK => ?_) AllReadyH.nil
        go_simp
        refine (refselect_any t A ca g W10 (HTD.out.below hI10.2) HSM.out (by omega)).mono ?_
        rintro e W11 ⟨v', rfl, hmd, hq⟩
        have hI11 : BoxF W11 w.heap.size f ∧ Below W0.heap.size W0 W11 := ⟨hI10.1.below hq, hI10.2.trans (hq.mono hI10.2.size)⟩
        obtain ⟨Ar, cr, rfl, pr⟩ := hmd.paths
        have ps := ps.below hq
        clear hq
        go_wp2_with fail
        refine hK.out _ _ ⟨hI11.1.c0, hI11.1.c1⟩ (fun hHeld => ?_)
        clear hK K
        try simp only [Act.put, List.getElem_toArray, List.getElem_cons_zero, List.getElem_cons_succ, List.setIfInBounds_toArray, List.set_cons_zero, List.set_cons_succ]
        refine wpAnyH_ready (rs := [42]) (by kernel_rfl) (by simp) ?_
        refine AllReadyH.cons rfl (fun K hK => ?_) AllReadyH.nil
        go_simp
        refine (refsametexts_same (selX t g) As Ar cs cr W11 ps pr (Nat.le_trans (selX_le _ _) (by omega))).mono ?_
        rintro e W12 ⟨rfl, hq⟩
        have hI12 : BoxF W12 w.heap.size f ∧ Below W0.heap.size W0 W12 := ⟨hI11.1.below hq, hI11.2.trans (hq.mono hI11.2.size)⟩
        clear hq
        go_wp2_with fail
        refine hK.out _ _ ⟨hI12.1.c0, hI12.1.c1⟩ (fun hHeld => ?_)
        clear hK K
        try simp only [Act.put, List.getElem_toArray, List.getElem_cons_zero, List.getElem_cons_succ, List.setIfInBounds_toArray, List.set_cons_zero, List.set_cons_succ]
        clear ps pr
        refine wpAnyH_take (i := 43) (v := ?vk43) rfl (by kernel_rfl) (by kernel_rfl) (by kernel_rfl) (fun _ _ _ h => h) (Or.inl ⟨by rfl, ?yk43⟩) (by assumption) ?rk43
        case yk43 =>
          intro w hSw
          (try dsimp only at hSw)
          go_simp
          first | done | with_reducible rfl
        try simp only [Act.put, List.getElem_toArray, List.getElem_cons_zero, List.getElem_cons_succ, List.setIfInBounds_toArray, List.set_cons_zero, List.set_cons_succ]
        refine wpAnyH_take (i := 44) (v := ?vk44) rfl (by kernel_rfl) (by kernel_rfl) (by kernel_rfl) (fun _ _ _ h => h) (Or.inl ⟨by rfl, ?yk44⟩) (by assumption) ?rk44
        case yk44 =>
          intro w hSw
          (try dsimp only at hSw)
          go_simp
          first | done | with_reducible rfl
        try simp only [Act.put, List.getElem_toArray, List.getElem_cons_zero, List.getElem_cons_succ, List.setIfInBounds_toArray, List.set_cons_zero, List.set_cons_succ]
        refine wpAnyH_take (i := 45) (v := ?vk45) rfl (by kernel_rfl) (by kernel_rfl) (by kernel_rfl) (fun _ _ _ h => h) (Or.inl ⟨by rfl, ?yk45⟩) (by assumption) ?rk45
        case yk45 =>
          intro w hSw
          (try dsimp only at hSw)
          go_simp
          first | done | with_reducible rfl
        try simp only [Act.put, List.getElem_toArray, List.getElem_cons_zero, List.getElem_cons_succ, List.setIfInBounds_toArray, List.set_cons_zero, List.set_cons_succ]
        refine wpAnyH_take (i := 46) (v := ?vk46) rfl (by kernel_rfl) (by kernel_rfl) (by kernel_rfl) (fun _ _ _ h => h) (Or.inl ⟨by rfl, ?yk46⟩) (by assumption) ?rk46
        case yk46 =>
          intro w hSw
          (try dsimp only at hSw)
          go_simp
          first | done | with_reducible rfl
        try simp only [Act.put, List.getElem_toArray, List.getElem_cons_zero, List.getElem_cons_succ, List.setIfInBounds_toArray, List.set_cons_zero, List.set_cons_succ]
        refine wpAnyH_take (i := 48) (v := ?vk48) rfl (by kernel_rfl) (by kernel_rfl) (by kernel_rfl) (fun _ _ _ h => h) (Or.inl ⟨by rfl, ?yk48⟩) (by assumption) ?rk48
        case yk48 =>
          intro w hSw
          (try dsimp only at hSw)
          go_simp
          first | done | with_reducible rfl
        try simp only [Act.put, List.getElem_toArray, List.getElem_cons_zero, List.getElem_cons_succ, List.setIfInBounds_toArray, List.set_cons_zero, List.set_cons_succ]
        refine wpAnyH_take (i := 49) (v := ?vk49) rfl (by kernel_rfl) (by kernel_rfl) (by kernel_rfl) (fun _ _ _ h => h) (Or.inl ⟨by rfl, ?yk49⟩) (by assumption) ?rk49
        case yk49 =>
          intro w hSw
          (try dsimp only at hSw)
          go_simp
          first | done | with_reducible rfl
        try simp only [Act.put, List.getElem_toArray, List.getElem_cons_zero, List.getElem_cons_succ, List.setIfInBounds_toArray, List.set_cons_zero, List.set_cons_succ]
        refine wpAnyH_ready (rs := [47]) (by kernel_rfl) (by simp) ?_
        refine AllReadyH.cons rfl (fun K hK => ?_) AllReadyH.nil
        go_simp
        refine (same_any t u A B ca cb W12 (by omega) (by omega) (HTD.out.below hI12.2) (HUD.out.below hI12.2)).mono ?_
        rintro e W13 ⟨rfl, hq⟩
        have hI13 : BoxF W13 w.heap.size f ∧ Below W0.heap.size W0 W13 := ⟨hI12.1.below hq, hI12.2.trans (hq.mono hI12.2.size)⟩
        clear hq
        go_wp2_with fail
        refine hK.out _ _ ⟨hI13.1.c0, hI13.1.c1⟩ (fun hHeld => ?_)
        clear hK K
        try simp only [Act.put, List.getElem_toArray, List.getElem_cons_zero, List.getElem_cons_succ, List.setIfInBounds_toArray, List.set_cons_zero, List.set_cons_succ]
        refine wpAnyH_ready (rs := [50]) (by kernel_rfl) (by simp) ?_
        refine AllReadyH.cons rfl (fun K hK => ?_) AllReadyH.nil
        go_simp
        refine (refsame_any t u A B ca cb W13 (HTD.out.below hI13.2) (HUD.out.below hI13.2) (by omega) (by omega)).mono ?_
        rintro e W14 ⟨rfl, hq⟩
        have hI14 : BoxF W14 w.heap.size f ∧ Below W0.heap.size W0 W14 := ⟨hI13.1.below hq, hI13.2.trans (hq.mono hI13.2.size)⟩
        clear hq
        go_wp2_with fail
        refine hK.out _ _ ⟨hI14.1.c0, hI14.1.c1⟩ (fun hHeld => ?_)
        clear hK K
        try simp only [Act.put, List.getElem_toArray, List.getElem_cons_zero, List.getElem_cons_succ, List.setIfInBounds_toArray, List.set_cons_zero, List.set_cons_succ]
        refine wpAnyH_take (i := 51) (v := ?vk51) rfl (by kernel_rfl) (by kernel_rfl) (by kernel_rfl) (fun _ _ _ h => h) (Or.inl ⟨by rfl, ?yk51⟩) (by assumption) ?rk51
        case yk51 =>
          intro w hSw
          (try dsimp only at hSw)
          go_simp
          first | done | with_reducible rfl
        try simp only [Act.put, List.getElem_toArray, List.getElem_cons_zero, List.getElem_cons_succ, List.setIfInBounds_toArray, List.set_cons_zero, List.set_cons_succ]
        refine wpAnyH_take (i := 52) (v := ?vk52) rfl (by kernel_rfl) (by kernel_rfl) (by kernel_rfl) (fun _ _ _ h => h) (Or.inl ⟨by rfl, ?yk52⟩) (by assumption) ?rk52
        case yk52 =>
          intro w hSw
          (try dsimp only at hSw)
          go_simp
          first | done | with_reducible rfl
        try simp only [Act.put, List.getElem_toArray, List.getElem_cons_zero, List.getElem_cons_succ, List.setIfInBounds_toArray, List.set_cons_zero, List.set_cons_succ]
        refine wpAnyH_take (i := 53) (v := ?vk53) rfl (by kernel_rfl) (by kernel_rfl) (by kernel_rfl) (fun _ _ _ h => h) (Or.inl ⟨by rfl, ?yk53⟩) (by assumption) ?rk53
        case yk53 =>
          intro w hSw
          (try dsimp only at hSw)
          go_simp
          first | done | with_reducible rfl
        try simp only [Act.put, List.getElem_toArray, List.getElem_cons_zero, List.getElem_cons_succ, List.setIfInBounds_toArray, List.set_cons_zero, List.set_cons_succ]
        refine wpAnyH_take (i := 54) (v := ?vk54) rfl (by kernel_rfl) (by kernel_rfl) (by kernel_rfl) (fun _ _ _ h => h) (Or.inl ⟨by rfl, ?yk54⟩) (by assumption) ?rk54
        case yk54 =>
          intro w hSw
          (try dsimp only at hSw)
          go_simp
          first | done | with_reducible rfl
        try simp only [Act.put, List.getElem_toArray, List.getElem_cons_zero, List.getElem_cons_succ, List.setIfInBounds_toArray, List.set_cons_zero, List.set_cons_succ]
        refine wpAnyH_take (i := 55) (v := ?vk55) rfl (by kernel_rfl) (by kernel_rfl) (by kernel_rfl) (fun _ _ _ h => h) (Or.inl ⟨by rfl, ?yk55⟩) (by assumption) ?rk55
        case yk55 =>
          intro w hSw
          (try dsimp only at hSw)
          go_simp
          first | done | with_reducible rfl
        try simp only [Act.put, List.getElem_toArray, List.getElem_cons_zero, List.getElem_cons_succ, List.setIfInBounds_toArray, List.set_cons_zero, List.set_cons_succ]
        refine wpAnyH_ready (rs := [56]) (by kernel_rfl) (by simp) ?_
        refine AllReadyH.cons rfl (fun K hK => ?_) AllReadyH.nil
        go_simp
        refine (same_any t t A A ca ca W14 (by omega) (by omega) (HTD.out.below hI14.2) (HTD.out.below hI14.2)).mono ?_
        rw [decide_eq_true (rfl : flsX t = flsX t)]
        rintro e W15 ⟨rfl, hq⟩
        have hI15 : BoxF W15 w.heap.size f ∧ Below W0.heap.size W0 W15 := ⟨hI14.1.below hq, hI14.2.trans (hq.mono hI14.2.size)⟩
        clear hq
        go_wp2_with fail
        refine hK.out _ _ ⟨hI15.1.c0, hI15.1.c1⟩ (fun hHeld => ?_)
        clear hK K
        try simp only [Act.put, List.getElem_toArray, List.getElem_cons_zero, List.getElem_cons_succ, List.setIfInBounds_toArray, List.set_cons_zero, List.set_cons_succ]
        refine wpAnyH_take (i := 57) (v := ?vk57) rfl (by kernel_rfl) (by kernel_rfl) (by kernel_rfl) (fun _ _ _ h => h) (Or.inl ⟨by rfl, ?yk57⟩) (by assumption) ?rk57
        case yk57 =>
          intro w hSw
          (try dsimp only at hSw)
          go_simp
          first | done | with_reducible rfl
        try simp only [Act.put, List.getElem_toArray, List.getElem_cons_zero, List.getElem_cons_succ, List.setIfInBounds_toArray, List.set_cons_zero, List.set_cons_succ]
        refine wpAnyH_take (i := 58) (v := ?vk58) rfl (by kernel_rfl) (by kernel_rfl) (by kernel_rfl) (fun _ _ _ h => h) (Or.inl ⟨by rfl, ?yk58⟩) (by assumption) ?rk58
        case yk58 =>
          intro w hSw
          (try dsimp only at hSw)
          go_simp
          first | done | with_reducible rfl
        try simp only [Act.put, List.getElem_toArray, List.getElem_cons_zero, List.getElem_cons_succ, List.setIfInBounds_toArray, List.set_cons_zero, List.set_cons_succ]
        refine wpAnyH_ready (rs := [59]) (by kernel_rfl) (by simp) ?_
        refine AllReadyH.cons rfl (fun K hK => ?_) AllReadyH.nil
        go_simp
        refine (lawknown_any W15 (HMD.out.below hI15.2)).mono ?_
        rintro e W16 ⟨rfl, hq⟩
        have hI16 : BoxF W16 w.heap.size f ∧ Below W0.heap.size W0 W16 := ⟨hI15.1.below hq, hI15.2.trans (hq.mono hI15.2.size)⟩
        clear hq
        go_wp2_with fail
        refine hK.out _ _ ⟨hI16.1.c0, hI16.1.c1⟩ (fun hHeld => ?_)
        clear hK K
        try simp only [Act.put, List.getElem_toArray, List.getElem_cons_zero, List.getElem_cons_succ, List.setIfInBounds_toArray, List.set_cons_zero, List.set_cons_succ]
        refine wpAnyH_take (i := 60) (v := ?vk60) rfl (by kernel_rfl) (by kernel_rfl) (by kernel_rfl) (fun _ _ _ h => h) (Or.inl ⟨by rfl, ?yk60⟩) (by assumption) ?rk60
        case yk60 =>
          intro w hSw
          (try dsimp only at hSw)
          go_simp
          first | done | with_reducible rfl
        try simp only [Act.put, List.getElem_toArray, List.getElem_cons_zero, List.getElem_cons_succ, List.setIfInBounds_toArray, List.set_cons_zero, List.set_cons_succ]
        refine wpAnyH_take (i := 61) (v := ?vk61) rfl (by kernel_rfl) (by kernel_rfl) (by kernel_rfl) (fun _ _ _ h => h) (Or.inl ⟨by rfl, ?yk61⟩) (by assumption) ?rk61
        case yk61 =>
          intro w hSw
          (try dsimp only at hSw)
          go_simp
          first | done | with_reducible rfl
        try simp only [Act.put, List.getElem_toArray, List.getElem_cons_zero, List.getElem_cons_succ, List.setIfInBounds_toArray, List.set_cons_zero, List.set_cons_succ]
        refine wpAnyH_done (by kernel_rfl) ?_ _
        have hIz := hI16
        go_wp2_with fail
        go_ret
        exact ⟨rfl, HBD.out.trans (hIz.2.mono HBD.out.size)⟩
end Go.Proofs.YtedcaodbcognjaaGreatDoor
