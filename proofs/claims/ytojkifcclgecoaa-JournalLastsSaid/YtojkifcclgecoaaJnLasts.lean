/-
  A journal's disk with power for so much; what it comes to where power is lost. Plain. · What a journal is behind a loss of power. Plain. · The law JournalLasts: lasts.
-/
import Derived.Test.YtojkifcclgecoaaJnCalm
import Derived.Test.YtojkifcclgecoaaJnLawQ
import Derived.Test.YtojkifcclgecoaaJnMine
namespace Go.Proofs.Ytojkifcclgecoaa
open Go Go.Proofs.Ytojkifcclgecoaa.Dk

section
variable {L : List DAr} {room k i n : Nat} {x : DAr} {b : Bs}
theorem pw_may (hx : L[i]? = some x) : (⟨L, room, some k, false⟩ : DDk).may (i : Int) = 0 := by
  unfold DDk.may
  rw [if_pos (has_nat (List.getElem?_eq_some_iff.1 hx).1)]; rfl
theorem pw_append (hx : L[i]? = some x) (hr : (⟨L, room, some k, false⟩ : DDk).used + b.length ≤ room) :
    (b.length ≤ k → appendE ⟨L, room, some k, false⟩ (i : Nat) b = 0 ∧ appendD ⟨L, room, some k, false⟩ (i : Nat) b = ⟨addAt L i (b.map .byte), room, some (k - b.length), false⟩) ∧
    (k < b.length → appendE ⟨L, room, some k, false⟩ (i : Nat) b = 10 ∧ appendD ⟨L, room, some k, false⟩ (i : Nat) b = ⟨addAt L i ((b.take k).map .byte), room, some 0, true⟩) := by
  have hm := pw_may (room := room) (k := k) hx
  have e1 : appendE ⟨L, room, some k, false⟩ (i : Nat) b = ((⟨L, room, some k, false⟩ : DDk).append i b).state := by
    unfold appendE; rw [if_neg (by rw [hm]; omega), if_neg (by show ¬ room < _; omega), Int.toNat_natCast]
  have e2 : appendD ⟨L, room, some k, false⟩ (i : Nat) b = (⟨L, room, some k, false⟩ : DDk).append i b := by
    unfold appendD; rw [if_neg (by rw [hm]; omega), if_neg (by show ¬ room < _; omega), Int.toNat_natCast]
  rw [e1, e2]
  refine ⟨fun h => ?_, fun h => ?_⟩
  · have e : (⟨L, room, some k, false⟩ : DDk).append i b = ⟨addAt L i (b.map .byte), room, some (k - b.length), false⟩ := by
      unfold DDk.append DDk.after DDk.spend DDk.add
      simp only [Nat.min_eq_left h, List.take_length, Nat.lt_irrefl, decide_false]
    rw [e]; exact ⟨rfl, rfl⟩
  · have e : (⟨L, room, some k, false⟩ : DDk).append i b = ⟨addAt L i ((b.take k).map .byte), room, some 0, true⟩ := by
      unfold DDk.append DDk.after DDk.spend DDk.add
      have hmin : min b.length k = k := Nat.min_eq_right (by omega)
      simp only [hmin, Nat.sub_self, h, decide_true]
    rw [e]; exact ⟨rfl, rfl⟩
theorem pw_cut (hx : L[i]? = some x) (hn : n ≤ x.now.length) :
    (1 ≤ k → cutE ⟨L, room, some k, false⟩ (i : Nat) (n : Nat) = 0 ∧ cutD ⟨L, room, some k, false⟩ (i : Nat) (n : Nat) = ⟨addAt L i [.cut n], room, some (k - 1), false⟩) ∧
    (k = 0 → cutE ⟨L, room, some k, false⟩ (i : Nat) (n : Nat) = 10 ∧ cutD ⟨L, room, some k, false⟩ (i : Nat) (n : Nat) = ⟨L, room, some 0, true⟩) := by
  have hm := pw_may (room := room) (k := k) hx
  have hrd : (⟨L, room, some k, false⟩ : DDk).readL (i : Nat) = x.now := readL_at hx
  have hb : ¬ cutBad ⟨L, room, some k, false⟩ (i : Nat) (n : Nat) := by unfold cutBad; rw [hrd]; omega
  have e1 : cutE ⟨L, room, some k, false⟩ (i : Nat) (n : Nat) = ((⟨L, room, some k, false⟩ : DDk).cut i n).state := by
    unfold cutE; rw [if_neg (by rw [hm]; omega), if_neg hb, Int.toNat_natCast, Int.toNat_natCast]
  have e2 : cutD ⟨L, room, some k, false⟩ (i : Nat) (n : Nat) = (⟨L, room, some k, false⟩ : DDk).cut i n := by
    unfold cutD; rw [if_neg (by rw [hm]; omega), if_neg hb, Int.toNat_natCast, Int.toNat_natCast]
  rw [e1, e2]
  refine ⟨fun h => ?_, fun h => ?_⟩
  · have e : (⟨L, room, some k, false⟩ : DDk).cut i n = ⟨addAt L i [.cut n], room, some (k - 1), false⟩ := by
      unfold DDk.cut DDk.after DDk.spend DDk.add
      have hmin : min 1 k = 1 := Nat.min_eq_left h
      simp only [hmin, Nat.lt_irrefl, decide_false, Nat.lt_add_one, if_true]
    rw [e]; exact ⟨rfl, rfl⟩
  · subst h
    have e : (⟨L, room, some 0, false⟩ : DDk).cut i n = ⟨L, room, some 0, true⟩ := by
      have : (⟨L, room, some 0, false⟩ : DDk).cut i n = (⟨L, room, some 0, true⟩ : DDk).add i [] := rfl
      rw [this, add_nil]
    rw [e]; exact ⟨rfl, rfl⟩
theorem pw_sync (hx : L[i]? = some x) :
    (1 ≤ k → syncE ⟨L, room, some k, false⟩ (i : Nat) = 0 ∧ syncD ⟨L, room, some k, false⟩ (i : Nat) = ⟨L.modify i fun x => ⟨x.now, []⟩, room, some (k - 1), false⟩) ∧
    (k = 0 → syncE ⟨L, room, some k, false⟩ (i : Nat) = 10 ∧ syncD ⟨L, room, some k, false⟩ (i : Nat) = ⟨L, room, some 0, true⟩) := by
  have hm := pw_may (room := room) (k := k) hx
  have e1 : syncE ⟨L, room, some k, false⟩ (i : Nat) = ((⟨L, room, some k, false⟩ : DDk).sync i).state := by
    unfold syncE; rw [if_neg (by rw [hm]; omega), Int.toNat_natCast]
  have e2 : syncD ⟨L, room, some k, false⟩ (i : Nat) = (⟨L, room, some k, false⟩ : DDk).sync i := by
    unfold syncD; rw [if_neg (by rw [hm]; omega), Int.toNat_natCast]
  rw [e1, e2]
  refine ⟨fun h => ?_, fun h => ?_⟩
  · have e : (⟨L, room, some k, false⟩ : DDk).sync i = ⟨L.modify i fun x => ⟨x.now, []⟩, room, some (k - 1), false⟩ := by
      unfold DDk.sync DDk.after DDk.spend DDk.settle
      have hmin : min 1 k = 1 := Nat.min_eq_left h
      simp only [hmin, Nat.lt_irrefl, decide_false, if_true, Nat.zero_lt_one]
    rw [e]; exact ⟨rfl, rfl⟩
  · subst h
    exact ⟨rfl, rfl⟩
end
/-- Power for k; power lost. -/
def jp (a b c : DAr) (k : Nat) : DDk := ⟨[a, b, c], 100000, some k, false⟩
def jx (a b c : DAr) : DDk := ⟨[a, b, c], 100000, some 0, true⟩
theorem jp_used (a b c : DAr) (k : Nat) : (jp a b c k).used = a.now.length + b.now.length + c.now.length := by
  show usedL [a, b, c] = _
  unfold usedL
  simp only [List.map_cons, List.map_nil, List.sum_cons, List.sum_nil]; omega
theorem jp_append (a b c : DAr) (k : Nat) (s : Bs) (hr : a.now.length + b.now.length + c.now.length + s.length ≤ 100000) :
    (s.length ≤ k → appendE (jp a b c k) 2 s = 0 ∧ appendD (jp a b c k) 2 s = jp a b ⟨c.l, c.p ++ s.map .byte⟩ (k - s.length)) ∧
    (k < s.length → appendE (jp a b c k) 2 s = 10 ∧ appendD (jp a b c k) 2 s = jx a b ⟨c.l, c.p ++ (s.take k).map .byte⟩) :=
  pw_append (L := [a, b, c]) (i := 2) (x := c) rfl (by show (jp a b c k).used + _ ≤ _; rw [jp_used]; exact hr)
theorem jp_sync (a b c : DAr) (k : Nat) : (1 ≤ k → syncE (jp a b c k) 2 = 0 ∧ syncD (jp a b c k) 2 = jp a b (sA c.now) (k - 1)) ∧ (k = 0 → syncE (jp a b c k) 2 = 10 ∧ syncD (jp a b c k) 2 = jx a b c) :=
  pw_sync (L := [a, b, c]) (i := 2) (x := c) rfl
theorem jp_leave (a b c : DAr) (k : Nat) : (leaveE (jp a b c k) 0 = 0 ∧ leaveD (jp a b c k) 0 = jp a b (sA []) (k - 2)) ∨ (leaveE (jp a b c k) 0 = 10 ∧ ∃ y, leaveD (jp a b c k) 0 = jx a b y ∧ (y = c ∨ y = ⟨c.l, c.p ++ [.cut 0]⟩)) := by
  obtain ⟨p1, p2⟩ := pw_cut (L := [a, b, c]) (room := 100000) (k := k) (i := 2) (x := c) (n := 0) rfl (Nat.zero_le _)
  unfold leaveE leaveD
  rcases Nat.eq_zero_or_pos k with rfl | hk
  · obtain ⟨h1, h2⟩ := p2 rfl
    have h1 : cutE (jp a b c 0) 2 0 = 10 := h1
    have h2 : cutD (jp a b c 0) 2 0 = jx a b c := h2
    rw [if_neg (by rw [h1]; omega), if_neg (by rw [h1]; omega), h1, h2]
    exact .inr ⟨rfl, c, rfl, .inl rfl⟩
  · obtain ⟨h1, h2⟩ := p1 hk
    have h1 : cutE (jp a b c k) 2 0 = 0 := h1
    have h2 : cutD (jp a b c k) 2 0 = jp a b ⟨c.l, c.p ++ [.cut 0]⟩ (k - 1) := h2
    rw [if_pos h1, if_pos h1, h2]
    obtain ⟨p3, p4⟩ := jp_sync a b ⟨c.l, c.p ++ [.cut 0]⟩ (k - 1)
    rcases Nat.eq_zero_or_pos (k - 1) with h0 | hk2
    · obtain ⟨h3, h4⟩ := p4 h0
      exact .inr ⟨h3, _, h4, .inr rfl⟩
    · obtain ⟨h3, h4⟩ := p3 hk2
      refine .inl ⟨h3, h4.trans ?_⟩
      rw [now_cut]; show jp a b (sA []) (k - 1 - 1) = _; rw [show k - 1 - 1 = k - 2 by omega]

/-- Checkpoint into the slot 0, with power for k. -/
theorem jp_cp0 (a b c : DAr) (k q : Nat) (s : Bs) (hq : (q + 1) % 2 = 0) (hr : b.now.length + c.now.length + (16 + s.length) ≤ 100000) :
    (cpE (jp a b c k) q s = 0 ∧ cpQ (jp a b c k) q s = q + 1 ∧ ∃ k', cpD (jp a b c k) q s = jp (sA (numbF (q + 1) s)) b (sA []) k' ∧ k' ≤ k) ∨
    (cpE (jp a b c k) q s = 10 ∧ ((∃ x, cpD (jp a b c k) q s = jx x b c ∧ (x = a ∨ ∃ m, x = ⟨a.l, a.p ++ (.cut 0 :: ((numbF (q + 1) s).take m).map .byte)⟩)) ∨
      ∃ y, cpD (jp a b c k) q s = jx (sA (numbF (q + 1) s)) b y ∧ (y = c ∨ y = ⟨c.l, c.p ++ [.cut 0]⟩))) := by
  obtain ⟨F, hF⟩ : ∃ F, numbF (q + 1) s = F := ⟨_, rfl⟩
  have hl := numbF_length (q + 1) s
  rw [hF] at hl ⊢
  have hs : slotI q = (0 : Nat) := by unfold slotI; rw [hq]
  have hx : (jp a b c k).as[0]? = some a := rfl
  have d0 : ckE (jp a b c k) q s 0 = cutE (jp a b c k) (0 : Nat) (0 : Nat) := by show cutE _ (slotI q) 0 = _; rw [hs]; rfl
  have d1 : ck1 (jp a b c k) q = cutD (jp a b c k) (0 : Nat) (0 : Nat) := by unfold ck1; rw [hs]; rfl
  obtain ⟨p1, p2⟩ := pw_cut (k := k) (n := 0) (room := 100000) hx (Nat.zero_le _)
  unfold cpE cpD cpQ
  rw [inO_four]
  rcases Nat.eq_zero_or_pos k with rfl | hk
  · obtain ⟨h1, h2⟩ := p2 rfl
    have e0 : ckE (jp a b c 0) q s 0 = 10 := d0.trans h1
    rw [e0]
    exact .inr ⟨rfl, .inl ⟨a, d1.trans h2, .inl rfl⟩⟩
  · obtain ⟨h1, h2⟩ := p1 hk
    have e0 : ckE (jp a b c k) q s 0 = 0 := d0.trans h1
    have f1 : ck1 (jp a b c k) q = jp ⟨a.l, a.p ++ [.cut 0]⟩ b c (k - 1) := d1.trans h2
    have g1 : (⟨a.l, a.p ++ [.cut 0]⟩ : DAr).now = [] := by rw [now_cut]; rfl
    have hx1 : (jp ⟨a.l, a.p ++ [.cut 0]⟩ b c (k - 1)).as[0]? = some ⟨a.l, a.p ++ [.cut 0]⟩ := rfl
    have d2 : ckE (jp a b c k) q s 1 = appendE (jp ⟨a.l, a.p ++ [.cut 0]⟩ b c (k - 1)) (0 : Nat) F := by show appendE (ck1 _ q) (slotI q) _ = _; rw [hs, f1, hF]
    have d3 : ck2 (jp a b c k) q s = appendD (jp ⟨a.l, a.p ++ [.cut 0]⟩ b c (k - 1)) (0 : Nat) F := by unfold ck2; rw [hs, f1, hF]
    have hu : (jp ⟨a.l, a.p ++ [.cut 0]⟩ b c (k - 1)).used + F.length ≤ 100000 := by
      rw [jp_used, g1, hl, List.length_nil]; omega
    obtain ⟨p3, p4⟩ := pw_append (k := k - 1) (room := 100000) hx1 hu
    rcases Nat.lt_or_ge (k - 1) F.length with hk2 | hk2
    · obtain ⟨h3, h4⟩ := p4 hk2
      have e1 : ckE (jp a b c k) q s 1 = 10 := d2.trans h3
      rw [e0, e1]
      exact .inr ⟨rfl, .inl ⟨_, d3.trans h4, .inr ⟨k - 1, by show (⟨a.l, (a.p ++ [.cut 0]) ++ (F.take (k - 1)).map .byte⟩ : DAr) = _; rw [List.append_assoc]; rfl⟩⟩⟩
    · obtain ⟨h3, h4⟩ := p3 hk2
      have e1 : ckE (jp a b c k) q s 1 = 0 := d2.trans h3
      have f2 : ck2 (jp a b c k) q s = jp ⟨a.l, (a.p ++ [.cut 0]) ++ F.map .byte⟩ b c (k - 1 - F.length) := d3.trans h4
      have g2 : (⟨a.l, (a.p ++ [.cut 0]) ++ F.map .byte⟩ : DAr).now = F := by
        have := now_more ⟨a.l, a.p ++ [.cut 0]⟩ F
        rw [g1] at this; exact this
      generalize hk3 : k - 1 - F.length = k3 at *
      have d4 : ckE (jp a b c k) q s 2 = syncE (jp ⟨a.l, (a.p ++ [.cut 0]) ++ F.map .byte⟩ b c k3) (0 : Nat) := by show syncE (ck2 _ q s) (slotI q) = _; rw [hs, f2]
      have d5 : ck3 (jp a b c k) q s = syncD (jp ⟨a.l, (a.p ++ [.cut 0]) ++ F.map .byte⟩ b c k3) (0 : Nat) := by unfold ck3; rw [hs, f2]
      have hx2 : (jp ⟨a.l, (a.p ++ [.cut 0]) ++ F.map .byte⟩ b c k3).as[0]? = some ⟨a.l, (a.p ++ [.cut 0]) ++ F.map .byte⟩ := rfl
      obtain ⟨p5, p6⟩ := pw_sync (k := k3) (room := 100000) hx2
      rcases Nat.eq_zero_or_pos k3 with h0 | hk4
      · obtain ⟨h5, h6⟩ := p6 h0
        have e2 : ckE (jp a b c k) q s 2 = 10 := d4.trans h5
        rw [e0, e1, e2]
        refine .inr ⟨rfl, .inl ⟨(⟨a.l, (a.p ++ [DSt.cut 0]) ++ F.map DSt.byte⟩ : DAr), d5.trans h6, .inr ⟨F.length, ?_⟩⟩⟩
        rw [List.take_length, List.append_assoc]; rfl
      · obtain ⟨h5, h6⟩ := p5 hk4
        have e2 : ckE (jp a b c k) q s 2 = 0 := d4.trans h5
        have f3 : ck3 (jp a b c k) q s = jp (sA F) b c (k3 - 1) := by
          refine d5.trans (h6.trans ?_)
          show (⟨[sA (⟨a.l, (a.p ++ [.cut 0]) ++ F.map .byte⟩ : DAr).now, b, c], 100000, some (k3 - 1), false⟩ : DDk) = _
          rw [g2]; rfl
        have d6 : ckE (jp a b c k) q s 3 = leaveE (jp (sA F) b c (k3 - 1)) 0 := by show leaveE (ck3 _ q s) 0 = _; rw [f3]
        have d7 : ckD (jp a b c k) q s 4 = leaveD (jp (sA F) b c (k3 - 1)) 0 := by show leaveD (ck3 _ q s) 0 = _; rw [f3]
        rw [e0, e1, e2]
        simp only [ne_eq, not_true_eq_false, if_false]
        rcases jp_leave (sA F) b c (k3 - 1) with ⟨h7, h8⟩ | ⟨h7, y, h8, h9⟩
        · exact .inl ⟨d6.trans h7, rfl, _, d7.trans h8, by omega⟩
        · exact .inr ⟨d6.trans h7, .inr ⟨y, d7.trans h8, h9⟩⟩

/-- Checkpoint into the slot 1, with power for k. -/
theorem jp_cp1 (a b c : DAr) (k q : Nat) (s : Bs) (hq : (q + 1) % 2 = 1) (hr : a.now.length + c.now.length + (16 + s.length) ≤ 100000) :
    (cpE (jp a b c k) q s = 0 ∧ cpQ (jp a b c k) q s = q + 1 ∧ ∃ k', cpD (jp a b c k) q s = jp a (sA (numbF (q + 1) s)) (sA []) k' ∧ k' ≤ k) ∨
    (cpE (jp a b c k) q s = 10 ∧ ((∃ x, cpD (jp a b c k) q s = jx a x c ∧ (x = b ∨ ∃ m, x = ⟨b.l, b.p ++ (.cut 0 :: ((numbF (q + 1) s).take m).map .byte)⟩)) ∨
      ∃ y, cpD (jp a b c k) q s = jx a (sA (numbF (q + 1) s)) y ∧ (y = c ∨ y = ⟨c.l, c.p ++ [.cut 0]⟩))) := by
  obtain ⟨F, hF⟩ : ∃ F, numbF (q + 1) s = F := ⟨_, rfl⟩
  have hl := numbF_length (q + 1) s
  rw [hF] at hl ⊢
  have hs : slotI q = (1 : Nat) := by unfold slotI; rw [hq]
  have hx : (jp a b c k).as[1]? = some b := rfl
  have d0 : ckE (jp a b c k) q s 0 = cutE (jp a b c k) (1 : Nat) (0 : Nat) := by show cutE _ (slotI q) 0 = _; rw [hs]; rfl
  have d1 : ck1 (jp a b c k) q = cutD (jp a b c k) (1 : Nat) (0 : Nat) := by unfold ck1; rw [hs]; rfl
  obtain ⟨p1, p2⟩ := pw_cut (k := k) (n := 0) (room := 100000) hx (Nat.zero_le _)
  unfold cpE cpD cpQ
  rw [inO_four]
  rcases Nat.eq_zero_or_pos k with rfl | hk
  · obtain ⟨h1, h2⟩ := p2 rfl
    have e0 : ckE (jp a b c 0) q s 0 = 10 := d0.trans h1
    rw [e0]
    exact .inr ⟨rfl, .inl ⟨b, d1.trans h2, .inl rfl⟩⟩
  · obtain ⟨h1, h2⟩ := p1 hk
    have e0 : ckE (jp a b c k) q s 0 = 0 := d0.trans h1
    have f1 : ck1 (jp a b c k) q = jp a ⟨b.l, b.p ++ [.cut 0]⟩ c (k - 1) := d1.trans h2
    have g1 : (⟨b.l, b.p ++ [.cut 0]⟩ : DAr).now = [] := by rw [now_cut]; rfl
    have hx1 : (jp a ⟨b.l, b.p ++ [.cut 0]⟩ c (k - 1)).as[1]? = some ⟨b.l, b.p ++ [.cut 0]⟩ := rfl
    have d2 : ckE (jp a b c k) q s 1 = appendE (jp a ⟨b.l, b.p ++ [.cut 0]⟩ c (k - 1)) (1 : Nat) F := by show appendE (ck1 _ q) (slotI q) _ = _; rw [hs, f1, hF]
    have d3 : ck2 (jp a b c k) q s = appendD (jp a ⟨b.l, b.p ++ [.cut 0]⟩ c (k - 1)) (1 : Nat) F := by unfold ck2; rw [hs, f1, hF]
    have hu : (jp a ⟨b.l, b.p ++ [.cut 0]⟩ c (k - 1)).used + F.length ≤ 100000 := by
      rw [jp_used, g1, hl, List.length_nil]; omega
    obtain ⟨p3, p4⟩ := pw_append (k := k - 1) (room := 100000) hx1 hu
    rcases Nat.lt_or_ge (k - 1) F.length with hk2 | hk2
    · obtain ⟨h3, h4⟩ := p4 hk2
      have e1 : ckE (jp a b c k) q s 1 = 10 := d2.trans h3
      rw [e0, e1]
      exact .inr ⟨rfl, .inl ⟨_, d3.trans h4, .inr ⟨k - 1, by show (⟨b.l, (b.p ++ [.cut 0]) ++ (F.take (k - 1)).map .byte⟩ : DAr) = _; rw [List.append_assoc]; rfl⟩⟩⟩
    · obtain ⟨h3, h4⟩ := p3 hk2
      have e1 : ckE (jp a b c k) q s 1 = 0 := d2.trans h3
      have f2 : ck2 (jp a b c k) q s = jp a ⟨b.l, (b.p ++ [.cut 0]) ++ F.map .byte⟩ c (k - 1 - F.length) := d3.trans h4
      have g2 : (⟨b.l, (b.p ++ [.cut 0]) ++ F.map .byte⟩ : DAr).now = F := by
        have := now_more ⟨b.l, b.p ++ [.cut 0]⟩ F
        rw [g1] at this; exact this
      generalize hk3 : k - 1 - F.length = k3 at *
      have d4 : ckE (jp a b c k) q s 2 = syncE (jp a ⟨b.l, (b.p ++ [.cut 0]) ++ F.map .byte⟩ c k3) (1 : Nat) := by show syncE (ck2 _ q s) (slotI q) = _; rw [hs, f2]
      have d5 : ck3 (jp a b c k) q s = syncD (jp a ⟨b.l, (b.p ++ [.cut 0]) ++ F.map .byte⟩ c k3) (1 : Nat) := by unfold ck3; rw [hs, f2]
      have hx2 : (jp a ⟨b.l, (b.p ++ [.cut 0]) ++ F.map .byte⟩ c k3).as[1]? = some ⟨b.l, (b.p ++ [.cut 0]) ++ F.map .byte⟩ := rfl
      obtain ⟨p5, p6⟩ := pw_sync (k := k3) (room := 100000) hx2
      rcases Nat.eq_zero_or_pos k3 with h0 | hk4
      · obtain ⟨h5, h6⟩ := p6 h0
        have e2 : ckE (jp a b c k) q s 2 = 10 := d4.trans h5
        rw [e0, e1, e2]
        refine .inr ⟨rfl, .inl ⟨(⟨b.l, (b.p ++ [DSt.cut 0]) ++ F.map DSt.byte⟩ : DAr), d5.trans h6, .inr ⟨F.length, ?_⟩⟩⟩
        rw [List.take_length, List.append_assoc]; rfl
      · obtain ⟨h5, h6⟩ := p5 hk4
        have e2 : ckE (jp a b c k) q s 2 = 0 := d4.trans h5
        have f3 : ck3 (jp a b c k) q s = jp a (sA F) c (k3 - 1) := by
          refine d5.trans (h6.trans ?_)
          show (⟨[a, sA (⟨b.l, (b.p ++ [.cut 0]) ++ F.map .byte⟩ : DAr).now, c], 100000, some (k3 - 1), false⟩ : DDk) = _
          rw [g2]; rfl
        have d6 : ckE (jp a b c k) q s 3 = leaveE (jp a (sA F) c (k3 - 1)) 0 := by show leaveE (ck3 _ q s) 0 = _; rw [f3]
        have d7 : ckD (jp a b c k) q s 4 = leaveD (jp a (sA F) c (k3 - 1)) 0 := by show leaveD (ck3 _ q s) 0 = _; rw [f3]
        rw [e0, e1, e2]
        simp only [ne_eq, not_true_eq_false, if_false]
        rcases jp_leave a (sA F) c (k3 - 1) with ⟨h7, h8⟩ | ⟨h7, y, h8, h9⟩
        · exact .inl ⟨d6.trans h7, rfl, _, d7.trans h8, by omega⟩
        · exact .inr ⟨d6.trans h7, .inr ⟨y, d7.trans h8, h9⟩⟩

end Go.Proofs.Ytojkifcclgecoaa
namespace Go.Proofs.Ytojkifcclgecoaa
open Go Go.Proofs.Ytojkifcclgecoaa.Dk

/-- The slots of a journal of the number q, whose state is st. -/
structure SlotsP (q : Nat) (st a b : Bs) : Prop where
  zero : q = 0 → st = [] ∧ numb a = none ∧ numb b = none
  even : 0 < q → q % 2 = 0 → numb a = some (q, st) ∧ ∀ y, numb b = some y → y.1 < q
  odd : 0 < q → q % 2 = 1 → numb b = some (q, st) ∧ ∀ y, numb a = some y → y.1 < q
theorem slotsP_zero : SlotsP 0 [] [] [] := ⟨fun _ => ⟨rfl, numb_few (by simp), numb_few (by simp)⟩, fun h => absurd h (by omega), fun h => absurd h (by omega)⟩
theorem SlotsP.opens {q : Nat} {st a b : Bs} (h : SlotsP q st a b) : seqO (newL [a, b]) = q ∧ staO (newL [a, b]) = st := by
  rw [newL_two]
  rcases Nat.eq_zero_or_pos q with rfl | hq
  · obtain ⟨rfl, h1, h2⟩ := h.zero rfl
    rw [newStep_none h1, newStep_none h2]; exact ⟨rfl, rfl⟩
  · by_cases hp : q % 2 = 0
    · obtain ⟨h1, h2⟩ := h.even hq hp
      rw [newStep_first h1, newStep_low h2]; exact ⟨rfl, rfl⟩
    · obtain ⟨h1, h2⟩ := h.odd hq (by omega)
      rw [newStep_big h1 fun z hz => ?_]
      · exact ⟨rfl, rfl⟩
      · cases ha : numb a with
        | none => rw [newStep_none ha] at hz; cases hz
        | some u => rw [newStep_first ha] at hz; cases hz; exact h2 _ ha
theorem SlotsP.bad0 {q : Nat} {st a b x : Bs} (h : SlotsP q st a b) (hp : (q + 1) % 2 = 0) (hx : numb x = none) : SlotsP q st x b :=
  ⟨fun e => by omega, fun _ e => by omega, fun h0 e => ⟨(h.odd h0 e).1, fun y hy => by rw [hx] at hy; cases hy⟩⟩
theorem SlotsP.bad1 {q : Nat} {st a b x : Bs} (h : SlotsP q st a b) (hp : (q + 1) % 2 = 1) (hx : numb x = none) : SlotsP q st a x :=
  ⟨fun e => ⟨(h.zero e).1, (h.zero e).2.1, hx⟩, fun h0 e => ⟨(h.even h0 e).1, fun y hy => by rw [hx] at hy; cases hy⟩, fun _ e => by omega⟩
theorem SlotsP.new0 {q : Nat} {st s a b x : Bs} (h : SlotsP q st a b) (hp : (q + 1) % 2 = 0) (hx : numb x = some (q + 1, s)) : SlotsP (q + 1) s x b :=
  ⟨fun e => by omega, fun _ _ => ⟨hx, fun y hy => by
    have := (h.odd (by omega) (by omega)).1
    rw [this] at hy; cases hy; show q < q + 1; omega⟩, fun _ e => by omega⟩
theorem SlotsP.new1 {q : Nat} {st s a b x : Bs} (h : SlotsP q st a b) (hp : (q + 1) % 2 = 1) (hx : numb x = some (q + 1, s)) : SlotsP (q + 1) s a x :=
  ⟨fun e => by omega, fun _ e => by omega, fun _ _ => ⟨hx, fun y hy => by
    rcases Nat.eq_zero_or_pos q with h0 | h0
    · rw [(h.zero h0).2.1] at hy; cases hy
    · have := (h.even h0 (by omega)).1
      rw [this] at hy; cases hy; show q < q + 1; omega⟩⟩

/-- The log: so many records last, the others are pending. -/
def logA (q : Nat) (recs : List Bs) (s : Nat) : DAr := ⟨joinR q (recs.take s), (joinR q (recs.drop s)).map .byte⟩
theorem logA_now (q : Nat) (recs : List Bs) {s : Nat} (_hs : s ≤ recs.length) : (logA q recs s).now = joinR q recs := by
  show runS (joinR q (recs.take s)) ((joinR q (recs.drop s)).map .byte) = _
  rw [runS_bytes, ← joinR_append, List.take_append_drop]
/-- Bytes of a log that are cut short anywhere. -/
theorem joinR_take (q : Nat) : ∀ (L : List Bs) (k : Nat), (∀ x ∈ L, x.length ≤ 65528) → ∃ m t, m ≤ L.length ∧ (joinR q L).take k = joinR q (L.take m) ++ t ∧ numb t = none
  | [], k, _ => ⟨0, [], Nat.le_refl _, by rw [joinR_nil, List.take_nil]; rfl, numb_few (by simp)⟩
  | x :: L, k, h => by
    have hx := h x (by simp)
    have hl := numbF_length q x
    by_cases hk : k < 16 + x.length
    · exact ⟨0, (joinR q (x :: L)).take k, Nat.zero_le _, rfl, by rw [joinR_cons]; exact numb_cut hx hk⟩
    · obtain ⟨m, t, h1, h2, h3⟩ := joinR_take q L (k - (16 + x.length)) (fun y hy => h y (by simp [hy]))
      refine ⟨m + 1, t, by rw [List.length_cons]; omega, ?_, h3⟩
      rw [joinR_cons, List.take_append, List.take_of_length_le (by omega), hl, h2, List.take_succ_cons, joinR_cons, List.append_assoc]
/-- The records of the next number: there are none. -/
theorem recL_next (q : Nat) {t : Bs} (L : List Bs) (ht : numb t = none) (hL : ∀ x ∈ L, x.length ≤ 65528 ∧ q < 2 ^ 64 := by exact fun x hx => ⟨by omega, by omega⟩) : recL (q + 1) (joinR q L ++ t) = [] := by
  cases L with
  | nil => exact recL_none ht
  | cons x L =>
    obtain ⟨h1, h2⟩ := hL x (by simp)
    rw [joinR_cons, List.append_assoc]
    exact recL_other (numb_join h2 h1) (by show q ≠ q + 1; omega)
/-- Is that state there, and so many of those records, or more? -/
def okL (st' : Bs) (L : List Bs) (st : Bs) (recs : List Bs) (s : Nat) : Prop := st' = st ∧ s ≤ L.length ∧ L.length ≤ recs.length ∧ L = recs.take L.length
instance (st' : Bs) (L : List Bs) (st : Bs) (recs : List Bs) (s : Nat) : Decidable (okL st' L st recs s) := by unfold okL; infer_instance
/-- What a disk is behind its restart. -/
structure Rst (d : DDk) (keep : Int) (q : Nat) (st a b : Bs) (L : List Bs) (t : Bs) : Prop where
  eq : d.restart keep = jd (sA a) (sA b) (sA (joinR q L ++ t)) 100000
  slots : SlotsP q st a b
  tail : recL q t = []
  q31 : q ≤ 31
  la : a.length ≤ 3000
  lb : b.length ≤ 3000
  lc : (joinR q L ++ t).length ≤ 6000
  lx : ∀ x ∈ L, x.length ≤ 65528
theorem jx_restart (a b c : DAr) (keep : Int) : (jx a b c).restart keep = jd (keepA keep.toNat a) (keepA keep.toNat b) (keepA keep.toNat c) 100000 := rfl
theorem jp_restart (a b c : DAr) (k : Nat) (keep : Int) : (jp a b c k).restart keep = jd (keepA keep.toNat a) (keepA keep.toNat b) (keepA keep.toNat c) 100000 := rfl
theorem lenR_all {L : List Bs} {n : Nat} (h : lenR L ≤ n) : ∀ x ∈ L, x.length ≤ n := fun x hx => by have := lenR_mem hx; omega
/-- What is kept of a log. -/
theorem keep_pend (q : Nat) (R1 R2 : List Bs) (P : Bs) (j k : Nat) (hP : P = (joinR q R2).take j) (h : ∀ x ∈ R2, x.length ≤ 65528) : ∃ m t, m ≤ R2.length ∧ keepA k ⟨joinR q R1, P.map .byte⟩ = sA (joinR q (R1 ++ R2.take m) ++ t) ∧ numb t = none ∧ (joinR q (R1 ++ R2.take m) ++ t).length ≤ lenR R1 + lenR R2 := by
  obtain ⟨m, t, h1, h2, h3⟩ := joinR_take q R2 (min k j) h
  have e : runS (joinR q R1) ((P.map .byte).take k) = joinR q (R1 ++ R2.take m) ++ t := by
    rw [← List.map_take, runS_bytes, hP, List.take_take, h2, joinR_append, List.append_assoc]
  refine ⟨m, t, h1, by unfold keepA sA; rw [← e], h3, ?_⟩
  rw [joinR_append, List.append_assoc, ← h2, List.length_append, List.length_take, joinR_length, joinR_length]
  omega
theorem okL_take {st : Bs} {recs : List Bs} {s n : Nat} (h : s ≤ n) (hn : n ≤ recs.length) : okL st (recs.take n) st recs s := by
  have hl : (recs.take n).length = n := by rw [List.length_take]; omega
  exact ⟨rfl, by rw [hl]; exact h, by rw [hl]; exact hn, by rw [hl]⟩
theorem log_keep (q : Nat) (recs : List Bs) {s : Nat} (hs : s ≤ recs.length) (h : ∀ x ∈ recs, x.length ≤ 2000) (k : Nat) : ∃ m t, s + m ≤ recs.length ∧ keepA k (logA q recs s) = sA (joinR q (recs.take (s + m)) ++ t) ∧ numb t = none ∧ (∀ st, okL st (recs.take (s + m)) st recs s) ∧ (joinR q (recs.take (s + m)) ++ t).length ≤ lenR recs := by
  obtain ⟨m, t, h1, h2, h3, h4⟩ := keep_pend q (recs.take s) (recs.drop s) (joinR q (recs.drop s)) (joinR q (recs.drop s)).length k List.take_length.symm (fun x hx => by have := h x (List.mem_of_mem_drop hx); omega)
  have e : recs.take s ++ (recs.drop s).take m = recs.take (s + m) := List.take_add.symm
  rw [e] at h2 h4
  rw [List.length_drop] at h1
  refine ⟨m, t, by omega, h2, h3, fun st => okL_take (by omega) (by omega), ?_⟩
  have := lenR_append (recs.take s) (recs.drop s)
  rw [List.take_append_drop] at this
  omega
theorem log_cut (q : Nat) (recs : List Bs) {s : Nat} (hs : s ≤ recs.length) (h : ∀ x ∈ recs, x.length ≤ 2000) (k : Nat) (y : DAr) (hy : y = logA q recs s ∨ y = ⟨(logA q recs s).l, (logA q recs s).p ++ [.cut 0]⟩) : ∃ L t, keepA k y = sA (joinR q L ++ t) ∧ numb t = none ∧ (joinR q L ++ t).length ≤ lenR recs ∧ ∀ x ∈ L, x.length ≤ 2000 := by
  obtain ⟨m, t, h1, h2, h3, _, h4⟩ := log_keep q recs hs h k
  have hm : ∀ x ∈ recs.take (s + m), x.length ≤ 2000 := fun x hx => h x (List.mem_of_mem_take hx)
  rcases hy with rfl | rfl
  · exact ⟨_, t, h2, h3, h4, hm⟩
  · rcases Nat.lt_or_ge (logA q recs s).p.length k with hk | hk
    · refine ⟨[], [], ?_, numb_few (by simp), Nat.zero_le _, fun x hx => by cases hx⟩
      unfold keepA
      rw [List.take_of_length_le (by rw [List.length_append, List.length_singleton]; omega), runS_append]; rfl
    · refine ⟨_, t, ?_, h3, h4, hm⟩
      rw [← h2]
      unfold keepA
      rw [List.take_append_of_le_length hk]
/-- Nothing has failed, or a Sync has. -/
theorem last_log {q : Nat} {st a b : Bs} {recs : List Bs} {s : Nat} (keep : Int) (d : DDk) (hd : d.restart keep = jd (keepA keep.toNat (sA a)) (keepA keep.toNat (sA b)) (keepA keep.toNat (logA q recs s)) 100000) (h : SlotsP q st a b) (hq : q ≤ 30) (hs : s ≤ recs.length) (ha : a.length ≤ 2000) (hb : b.length ≤ 2000) (hr : lenR recs ≤ 2000) :
    ∃ L t, Rst d keep q st a b L t ∧ okL st L st recs s := by
  obtain ⟨m, t, hm, ht, hn, hok, hln⟩ := log_keep q recs hs (lenR_all hr) keep.toNat
  exact ⟨recs.take (s + m), t, ⟨by rw [hd, keep_s, keep_s, ht], h, recL_none hn, by omega, by omega, by omega, by omega, fun y hy => by have := lenR_all hr y (List.mem_of_mem_take hy); omega⟩, hok st⟩
/-- An Append has failed. -/
theorem last_append {q : Nat} {st a b x : Bs} {recs : List Bs} {s k : Nat} (keep : Int) (h : SlotsP q st a b) (hq : q ≤ 30) (hs : s ≤ recs.length) (ha : a.length ≤ 2000) (hb : b.length ≤ 2000) (hr : lenR recs ≤ 2000) (hx : x.length ≤ 1000) (hk : k < (numbF q x).length) :
    ∃ L t, Rst (jx (sA a) (sA b) ⟨(logA q recs s).l, (logA q recs s).p ++ ((numbF q x).take k).map .byte⟩) keep q st a b L t ∧ okL st L st (recs ++ [x]) s := by
  have hP : joinR q (recs.drop s) ++ (numbF q x).take k = (joinR q (recs.drop s ++ [x])).take ((joinR q (recs.drop s)).length + k) := by
    rw [joinR_append, joinR_cons, joinR_nil, List.append_nil, List.take_length_add_append]
  obtain ⟨m, t, h1, h2, h3, h4⟩ := keep_pend q (recs.take s) (recs.drop s ++ [x]) _ _ keep.toNat hP (fun y hy => by
    rcases List.mem_append.1 hy with hy | hy
    · have := lenR_all hr y (List.mem_of_mem_drop hy); omega
    · obtain rfl : y = x := by simpa using hy
      omega)
  have e0 : recs.take s ++ (recs.drop s ++ [x]) = recs ++ [x] := by rw [← List.append_assoc, List.take_append_drop]
  have hls : (recs.take s).length = s := by rw [List.length_take]; omega
  have e : recs.take s ++ (recs.drop s ++ [x]).take m = (recs ++ [x]).take (s + m) := by
    have := List.take_length_add_append (l₁ := recs.take s) (l₂ := recs.drop s ++ [x]) m
    rw [hls, e0] at this
    exact this.symm
  rw [e] at h2 h4
  rw [List.length_append, List.length_drop, List.length_singleton] at h1
  have hlen : lenR (recs.take s) + lenR (recs.drop s ++ [x]) = lenR recs + (16 + x.length) := by
    rw [← lenR_append, e0, lenR_append, lenR_cons, lenR_nil, Nat.add_zero]
  have hc : (⟨(logA q recs s).l, (logA q recs s).p ++ ((numbF q x).take k).map .byte⟩ : DAr) = ⟨joinR q (recs.take s), (joinR q (recs.drop s) ++ (numbF q x).take k).map .byte⟩ := by
    unfold logA; rw [List.map_append]
  refine ⟨(recs ++ [x]).take (s + m), t, ⟨by rw [jx_restart, keep_s, keep_s, hc, h2], h, recL_none h3, by omega, by omega, by omega, by omega, fun y hy => ?_⟩, okL_take (by omega) (by rw [List.length_append, List.length_singleton]; omega)⟩
  rcases List.mem_append.1 (List.mem_of_mem_take hy) with hy | hy
  · have := lenR_all hr y hy; omega
  · obtain rfl : y = x := by simpa using hy
    omega

/-- A checkpoint that fails, into the slot 0. -/
theorem last_cp0 {q : Nat} {st x a b : Bs} {recs : List Bs} {s k : Nat} (keep : Int) (h : SlotsP q st a b) (hq : q ≤ 30) (hp : (q + 1) % 2 = 0) (hs : s ≤ recs.length) (ha : a.length ≤ 2000) (hb : b.length ≤ 2000) (hr : lenR recs ≤ 2000) (hrs : ∀ y ∈ recs, y.length ≤ 2000) (hx : x.length ≤ 1000)
    (hE : cpE (jp (sA a) (sA b) (logA q recs s) k) q x ≠ 0) :
    cpE (jp (sA a) (sA b) (logA q recs s) k) q x = 10 ∧ ∃ q' st' a' b' L t, Rst (cpD (jp (sA a) (sA b) (logA q recs s) k) q x) keep q' st' a' b' L t ∧ (okL st' L st recs s ∨ okL st' L x [] 0) := by
  have hnl := numbF_length (q + 1) x
  rcases jp_cp0 (sA a) (sA b) (logA q recs s) k q x hp (by rw [sA_now, logA_now q recs hs, joinR_length]; omega) with ⟨h0, _⟩ | ⟨h1, ⟨y, h2, h3⟩ | ⟨y, h2, h3⟩⟩
  · exact absurd h0 hE
  · refine ⟨h1, ?_⟩
    rw [h2]
    obtain ⟨m, t, hm, ht, hn, hok, hln⟩ := log_keep q recs hs hrs keep.toNat
    rcases h3 with rfl | ⟨m2, rfl⟩
    · exact ⟨q, st, a, b, recs.take (s + m), t, ⟨by rw [jx_restart, keep_s, keep_s, ht], h, recL_none hn, by omega, by omega, by omega, by omega, fun y hy => by have := hrs y (List.mem_of_mem_take hy); omega⟩, .inl (hok st)⟩
    · rcases Nat.eq_zero_or_pos keep.toNat with h0 | h0
      · have hk : keepA keep.toNat (⟨(sA a).l, (sA a).p ++ (.cut 0 :: ((numbF (q + 1) x).take m2).map .byte)⟩ : DAr) = sA a := by rw [h0]; rfl
        exact ⟨q, st, a, b, recs.take (s + m), t, ⟨by rw [jx_restart, keep_s, hk, ht], h, recL_none hn, by omega, by omega, by omega, by omega, fun y hy => by have := hrs y (List.mem_of_mem_take hy); omega⟩, .inl (hok st)⟩
      · obtain ⟨j, hj⟩ : ∃ j, keep.toNat = j + 1 := ⟨keep.toNat - 1, by omega⟩
        have hk : keepA keep.toNat (⟨(sA a).l, (sA a).p ++ (.cut 0 :: ((numbF (q + 1) x).take m2).map .byte)⟩ : DAr) = sA ((numbF (q + 1) x).take (min j m2)) := by
          rw [hj]
          show (⟨runS a ((DSt.cut 0 :: ((numbF (q + 1) x).take m2).map .byte).take (j + 1)), []⟩ : DAr) = _
          rw [List.take_succ_cons, runS_cons, ← List.map_take, runS_bytes, List.take_take]
          rfl
        by_cases hfull : (numbF (q + 1) x).length ≤ min j m2
        · rw [List.take_of_length_le hfull] at hk
          have hnb : numb (numbF (q + 1) x) = some (q + 1, x) := by have := numb_join (n := q + 1) (b := x) (t := []) (by omega) (by omega); rwa [List.append_nil] at this
          exact ⟨q + 1, x, numbF (q + 1) x, b, [], joinR q (recs.take (s + m)) ++ t, ⟨by rw [jx_restart, keep_s, hk, ht]; rfl, h.new0 hp hnb, recL_next q _ hn fun y hy => by have := hrs y (List.mem_of_mem_take hy); omega, by omega, by omega, by omega, by show (joinR (q + 1) [] ++ _).length ≤ _; rw [joinR_nil, List.nil_append]; omega, fun y hy => by cases hy⟩, .inr ⟨rfl, Nat.zero_le _, Nat.zero_le _, rfl⟩⟩
        · have hnb : numb ((numbF (q + 1) x).take (min j m2)) = none := by
            have := numb_cut (n := q + 1) (b := x) (t := []) (k := min j m2) (by omega) (by rw [← hnl]; omega)
            rwa [List.append_nil] at this
          exact ⟨q, st, (numbF (q + 1) x).take (min j m2), b, recs.take (s + m), t, ⟨by rw [jx_restart, keep_s, hk, ht], h.bad0 hp hnb, recL_none hn, by omega, by rw [List.length_take]; omega, by omega, by omega, fun y hy => by have := hrs y (List.mem_of_mem_take hy); omega⟩, .inl (hok st)⟩
  · refine ⟨h1, ?_⟩
    rw [h2]
    have hnb : numb (numbF (q + 1) x) = some (q + 1, x) := by have := numb_join (n := q + 1) (b := x) (t := []) (by omega) (by omega); rwa [List.append_nil] at this
    obtain ⟨L2, t2, hc2, hn2, hl2, hr2⟩ := log_cut q recs hs hrs keep.toNat y h3
    exact ⟨q + 1, x, numbF (q + 1) x, b, [], joinR q L2 ++ t2, ⟨by rw [jx_restart, keep_s, keep_s, hc2]; rfl, h.new0 hp hnb, recL_next q _ hn2 fun y hy => by have := hr2 y hy; omega, by omega, by omega, by omega, by show (joinR (q + 1) [] ++ _).length ≤ _; rw [joinR_nil, List.nil_append]; omega, fun y hy => by cases hy⟩, .inr ⟨rfl, Nat.zero_le _, Nat.zero_le _, rfl⟩⟩

/-- A checkpoint that fails, into the slot 1. -/
theorem last_cp1 {q : Nat} {st x a b : Bs} {recs : List Bs} {s k : Nat} (keep : Int) (h : SlotsP q st a b) (hq : q ≤ 30) (hp : (q + 1) % 2 = 1) (hs : s ≤ recs.length) (ha : a.length ≤ 2000) (hb : b.length ≤ 2000) (hr : lenR recs ≤ 2000) (hrs : ∀ y ∈ recs, y.length ≤ 2000) (hx : x.length ≤ 1000)
    (hE : cpE (jp (sA a) (sA b) (logA q recs s) k) q x ≠ 0) :
    cpE (jp (sA a) (sA b) (logA q recs s) k) q x = 10 ∧ ∃ q' st' a' b' L t, Rst (cpD (jp (sA a) (sA b) (logA q recs s) k) q x) keep q' st' a' b' L t ∧ (okL st' L st recs s ∨ okL st' L x [] 0) := by
  have hnl := numbF_length (q + 1) x
  rcases jp_cp1 (sA a) (sA b) (logA q recs s) k q x hp (by rw [sA_now, logA_now q recs hs, joinR_length]; omega) with ⟨h0, _⟩ | ⟨h1, ⟨y, h2, h3⟩ | ⟨y, h2, h3⟩⟩
  · exact absurd h0 hE
  · refine ⟨h1, ?_⟩
    rw [h2]
    obtain ⟨m, t, hm, ht, hn, hok, hln⟩ := log_keep q recs hs hrs keep.toNat
    rcases h3 with rfl | ⟨m2, rfl⟩
    · exact ⟨q, st, a, b, recs.take (s + m), t, ⟨by rw [jx_restart, keep_s, keep_s, ht], h, recL_none hn, by omega, by omega, by omega, by omega, fun y hy => by have := hrs y (List.mem_of_mem_take hy); omega⟩, .inl (hok st)⟩
    · rcases Nat.eq_zero_or_pos keep.toNat with h0 | h0
      · have hk : keepA keep.toNat (⟨(sA b).l, (sA b).p ++ (.cut 0 :: ((numbF (q + 1) x).take m2).map .byte)⟩ : DAr) = sA b := by rw [h0]; rfl
        exact ⟨q, st, a, b, recs.take (s + m), t, ⟨by rw [jx_restart, keep_s, hk, ht], h, recL_none hn, by omega, by omega, by omega, by omega, fun y hy => by have := hrs y (List.mem_of_mem_take hy); omega⟩, .inl (hok st)⟩
      · obtain ⟨j, hj⟩ : ∃ j, keep.toNat = j + 1 := ⟨keep.toNat - 1, by omega⟩
        have hk : keepA keep.toNat (⟨(sA b).l, (sA b).p ++ (.cut 0 :: ((numbF (q + 1) x).take m2).map .byte)⟩ : DAr) = sA ((numbF (q + 1) x).take (min j m2)) := by
          rw [hj]
          show (⟨runS b ((DSt.cut 0 :: ((numbF (q + 1) x).take m2).map .byte).take (j + 1)), []⟩ : DAr) = _
          rw [List.take_succ_cons, runS_cons, ← List.map_take, runS_bytes, List.take_take]
          rfl
        by_cases hfull : (numbF (q + 1) x).length ≤ min j m2
        · rw [List.take_of_length_le hfull] at hk
          have hnb : numb (numbF (q + 1) x) = some (q + 1, x) := by have := numb_join (n := q + 1) (b := x) (t := []) (by omega) (by omega); rwa [List.append_nil] at this
          exact ⟨q + 1, x, a, numbF (q + 1) x, [], joinR q (recs.take (s + m)) ++ t, ⟨by rw [jx_restart, keep_s, hk, ht]; rfl, h.new1 hp hnb, recL_next q _ hn fun y hy => by have := hrs y (List.mem_of_mem_take hy); omega, by omega, by omega, by omega, by show (joinR (q + 1) [] ++ _).length ≤ _; rw [joinR_nil, List.nil_append]; omega, fun y hy => by cases hy⟩, .inr ⟨rfl, Nat.zero_le _, Nat.zero_le _, rfl⟩⟩
        · have hnb : numb ((numbF (q + 1) x).take (min j m2)) = none := by
            have := numb_cut (n := q + 1) (b := x) (t := []) (k := min j m2) (by omega) (by rw [← hnl]; omega)
            rwa [List.append_nil] at this
          exact ⟨q, st, a, (numbF (q + 1) x).take (min j m2), recs.take (s + m), t, ⟨by rw [jx_restart, keep_s, hk, ht], h.bad1 hp hnb, recL_none hn, by omega, by omega, by rw [List.length_take]; omega, by omega, fun y hy => by have := hrs y (List.mem_of_mem_take hy); omega⟩, .inl (hok st)⟩
  · refine ⟨h1, ?_⟩
    rw [h2]
    have hnb : numb (numbF (q + 1) x) = some (q + 1, x) := by have := numb_join (n := q + 1) (b := x) (t := []) (by omega) (by omega); rwa [List.append_nil] at this
    obtain ⟨L2, t2, hc2, hn2, hl2, hr2⟩ := log_cut q recs hs hrs keep.toNat y h3
    exact ⟨q + 1, x, a, numbF (q + 1) x, [], joinR q L2 ++ t2, ⟨by rw [jx_restart, keep_s, keep_s, hc2]; rfl, h.new1 hp hnb, recL_next q _ hn2 fun y hy => by have := hr2 y hy; omega, by omega, by omega, by omega, by show (joinR (q + 1) [] ++ _).length ≤ _; rw [joinR_nil, List.nil_append]; omega, fun y hy => by cases hy⟩, .inr ⟨rfl, Nat.zero_le _, Nat.zero_le _, rfl⟩⟩

end Go.Proofs.Ytojkifcclgecoaa
namespace Go.Proofs.Ytojkifcclgecoaa
open Go Go.RowKit Go.Shelf Go.Proofs Go.Proofs.Ytojkifcclgecoaa.Dk

def moreB : Bs := [109, 111, 114, 101]
theorem rst_open0 {d : DDk} {keep : Int} {q : Nat} {st a b : Bs} {L : List Bs} {t : Bs} (heq : d.restart keep = jd (sA a) (sA b) (sA (joinR q L ++ t)) 100000) (hsl : SlotsP q st a b) (htl : recL q t = []) (hq : q ≤ 31) (hlx : ∀ x ∈ L, x.length ≤ 65528) :
    openE (d.restart keep) = 0 ∧ seqO (openO (d.restart keep)) = q ∧ staO (openO (d.restart keep)) = st ∧ openR (d.restart keep) = L ∧ openD (d.restart keep) = jd (sA a) (sA b) (sA (joinR q L)) 100000 := by
  obtain ⟨h1, h2, h3, h4⟩ := jd_open (sA a) (sA b) (sA (joinR q L ++ t)) 100000
  rw [← heq] at h1 h2 h3 h4
  obtain ⟨e1, e2⟩ := hsl.opens
  have e3 : recL q (joinR q L ++ t) = L := recL_join (by omega) L t hlx htl
  rw [sA_now, sA_now] at h1 h2 h4
  rw [sA_now, e1, e3] at h2 h4
  refine ⟨h3, by rw [h1]; exact e1, by rw [h1]; exact e2, h2, ?_⟩
  rw [h4, List.length_append, joinR_length]
  by_cases h0 : lenR L < lenR L + t.length
  · rw [if_pos h0, List.take_left' (joinR_length q L)]
  · rw [if_neg h0]
    have ht0 : t = [] := List.eq_nil_of_length_eq_zero (by omega)
    rw [heq, ht0, List.append_nil]
theorem rst_open {d : DDk} {keep : Int} {q : Nat} {st a b : Bs} {L : List Bs} {t : Bs} (h : Rst d keep q st a b L t) :
    openE (d.restart keep) = 0 ∧ seqO (openO (d.restart keep)) = q ∧ staO (openO (d.restart keep)) = st ∧ openR (d.restart keep) = L ∧ openD (d.restart keep) = jd (sA a) (sA b) (sA (joinR q L)) 100000 := rst_open0 h.eq h.slots h.tail h.q31 h.lx
def rst2 (q : Nat) (a b : Bs) (L : List Bs) : DDk := jd (sA a) (sA b) (sA (joinR q L)) 100000
def rst3 (q : Nat) (a b : Bs) (L : List Bs) : DDk := jd (sA a) (sA b) ⟨joinR q L, (numbF q moreB).map .byte⟩ 100000
theorem rst_more {d : DDk} {keep : Int} {q : Nat} {st a b : Bs} {L : List Bs} {t : Bs} (h : Rst d keep q st a b L t) :
    appendE (rst2 q a b L) 2 (numbF q moreB) = 0 ∧ appendD (rst2 q a b L) 2 (numbF q moreB) = rst3 q a b L ∧ syncE (rst3 q a b L) 2 = 0 ∧ syncD (rst3 q a b L) 2 = rst2 q a b (L ++ [moreB]) ∧ (rst2 q a b (L ++ [moreB])).restart 0 = rst2 q a b (L ++ [moreB]) ∧
      openE (rst2 q a b (L ++ [moreB])) = 0 ∧ staO (openO (rst2 q a b (L ++ [moreB]))) = st ∧ openR (rst2 q a b (L ++ [moreB])) = L ++ [moreB] := by
  have hq := h.q31
  have hla := h.la
  have hlb := h.lb
  have hlc := h.lc
  rw [List.length_append, joinR_length] at hlc
  have hm : moreB.length = 4 := rfl
  have hnl := numbF_length q moreB
  obtain ⟨h1, h2⟩ := jd_append (sA a) (sA b) (sA (joinR q L)) 100000 (numbF q moreB) (by rw [sA_now, sA_now, sA_now, joinR_length, hnl]; omega)
  obtain ⟨h3, h4⟩ := jd_sync (sA a) (sA b) ⟨joinR q L, (numbF q moreB).map .byte⟩ 100000
  have e : (⟨joinR q L, (numbF q moreB).map .byte⟩ : DAr).now = joinR q (L ++ [moreB]) := by
    have := now_more (sA (joinR q L)) (numbF q moreB)
    rw [sA_now] at this
    rw [joinR_append, joinR_cons, joinR_nil, List.append_nil]
    exact this
  rw [e] at h4
  have hr := rst_open0 (d := rst2 q a b (L ++ [moreB])) (keep := 0) (t := []) (by unfold rst2; rw [jd_restart, keep_s, keep_s, keep_s, List.append_nil]) h.slots (recL_nil q) hq (fun x hx => by
    rcases List.mem_append.1 hx with hx | hx
    · exact h.lx x hx
    · obtain rfl : x = moreB := by simpa using hx
      omega)
  have hre : (rst2 q a b (L ++ [moreB])).restart 0 = rst2 q a b (L ++ [moreB]) := by unfold rst2; rw [jd_restart, keep_s, keep_s, keep_s]
  obtain ⟨k1, k2, k3, k4, _⟩ := hr
  rw [hre] at k1 k3 k4
  exact ⟨h1, h2, h3, h4, hre, k1, k3, k4⟩
theorem BRowAt.front {w : World} {A : Option Addr} {c : Nat} {l : List BX} (h : BRowAt w A c l) (k : Nat) : BRowAt w A c (l.take k) := by
  refine ⟨by rw [List.length_take]; have := h.cap; omega, h.capm, fun hn => ?_, fun x hx => h.bytes x (List.mem_of_mem_take hx), fun x hx => h.caps x (List.mem_of_mem_take hx)⟩
  obtain ⟨g, o, e, hr⟩ := h.row (by rw [List.length_take] at hn; omega)
  refine ⟨g, o, e, fun i x hx => hr i x ?_⟩
  rw [List.getElem?_take] at hx
  split at hx
  · exact hx
  · cases hx

theorem sl_more (w : World) (fr : Nat × Nat) : SlAt (w.alloc (.cells #[.int .u8 109, .int .u8 111, .int .u8 114, .int .u8 101] 5 fr)) (some ⟨w.heap.size, 0, none⟩) 4 moreB := dk_sl ⟨BytesAt.of_cells fun i z hx => by
    have hi : i < 4 := (List.getElem?_eq_some_iff.1 hx).1
    have bV := heap_alloc_new w (.cells #[.int .u8 109, .int .u8 111, .int .u8 114, .int .u8 101] 5 fr)
    simp only [World.cell?, bV, Option.isSome_none, Nat.zero_add]
    match i, hi, hx with
    | 0, _, hx => cases hx; rfl
    | 1, _, hx => cases hx; rfl
    | 2, _, hx => cases hx; rfl
    | 3, _, hx => cases hx; rfl, Nat.le_refl 4, by unfold maxLen; omega, fun e => by cases e⟩
section
variable {B : Nat} {who : Nat → Nat} {w : World} {T g n : Nat} {D : DDk}
set_option maxRecDepth 100000 in
set_option maxHeartbeats 16000000 in
theorem lasts_any (keep : Int) {As Ar : Option Addr} {cs cr : Nat} {st st' a b t : Bs} {rows : List BX} {L : List Bs} {s q : Nat} (h : DS B who w T g D n) (hT : 0 < T) (hn : n ≤ 20000) (hk : keep ≤ 9223372036854775807) (hR : Rst D keep q st' a b L t)
    (hst : ∀ who' W, Turn T (T + 27) who w who' W → SlAt W As cs st) (hrows : ∀ who' W, Turn T (T + 27) who w who' W → BRowAt W Ar cr rows) (_hs : s ≤ 1000) :
    Calls Try.prog 15 #[.pointer (some ⟨g, 0, none⟩), .int .i64 keep, .slice As st.length cs, .slice Ar rows.length cr, .int .i64 (s : Nat)] w fun e w' => e = .returned (.bool (decide (okL st' L st (rows.map BX.b) s))) ∧ ∃ who', Turn T (T + 27) who w who' w' ∧ Fresh who' w' := by
  obtain ⟨ok, hok⟩ : ∃ ok : Bool, decide (okL st' L st (rows.map BX.b) s) = ok := ⟨_, rfl⟩
  rw [hok]
  have HOK := Lib.hid hok
  clear hok
  have HST := Lib.hid hst
  have HRW := Lib.hid hrows
  obtain ⟨z1, z2, z3, z4, z5⟩ := rst_open hR
  have HRS := Lib.hid (h.restart hT (by omega) keep hk)
  have Z1 := Lib.hid z1
  have Z2 := Lib.hid z2
  have Z3 := Lib.hid z3
  have Z4 := Lib.hid z4
  have Z5 := Lib.hid (show openD (D.restart keep) = rst2 q a b L from z5)
  have HM := Lib.hid (rst_more hR)
  have hq := hR.q31
  have hcr := (hrows who w (Turn.refl _ _ _ _)).cap
  have hcm := (hrows who w (Turn.refl _ _ _ _)).capm
  have hcm : cr ≤ 9223372036854775807 := by unfold maxLen at hcm; omega
  have hLl : L.length ≤ 6000 := by have h1 := lenR_count L; have h2 := hR.lc; rw [List.length_append, joinR_length] at h2; omega
  clear h hst hrows hR z1 z2 z3 z4 z5
  go_enter Try.func15, Try.ntmps15
  go_wp2_with fail
  refine HRS.out.mono ?_
  rintro e w1 ⟨rfl, who1, hD1, ht1⟩
  have HO := Lib.hid (open_any _ _ _ _ _ _ _ hD1 hT (by omega) rfl Z1.out)
  have HT1 := Lib.hid (ht1.wider (Nat.le_refl T) (show T + 26 ≤ T + 27 by omega))
  clear hD1 ht1 HRS
  go_wp2_with fail
  refine HO.out.mono ?_
  rintro e w2 ⟨gj, A2, c2, B2, d2, r, who2, rfl, hj2, ht2, hs2, hr2, hm2, _⟩
  rw [Z2.out, Z5.out] at hj2
  rw [Z3.out] at hs2 ⊢
  rw [Z4.out] at hm2
  have HT2 := Lib.hid (HT1.out.trans ht2)
  have hrl : r.length = L.length := by rw [← hm2, List.length_map]
  have HSM := Lib.hid (frsame_any st' st A2 As c2 cs w2 hs2.sl.bytes (HST.out _ _ HT2.out).bytes)
  have HJ2 := Lib.hid hj2
  have HR2 := Lib.hid hr2
  have HM2 := Lib.hid hm2
  clear ht2 hs2 hj2 hr2 hm2 HO HT1
  by_cases k1 : st' = st
  · subst k1
    rw [show (st' == st') = true from BEq.rfl] at HSM
    by_cases k2 : s ≤ L.length
    · have q2 : ((L.length : Int) < (s : Int)) = False := eq_false (by omega)
      by_cases k3 : L.length ≤ rows.length
      · have q3 : ((rows.length : Int) < (L.length : Int)) = False := eq_false (by omega)
        have q4 : (L.length : Int) ≤ (cr : Int) := by omega
        go_wp2_with fail
        refine HSM.out.mono ?_
        rintro e w3 ⟨rfl, hb3⟩
        have HT3 := Lib.hid (HT2.out.trans (Turn.below hb3))
        have HJ3 := Lib.hid (HJ2.out.below hb3)
        have HR3 := Lib.hid (HR2.out.below hb3)
        have hfr := (HRW.out _ _ HT3.out).front r.length
        have hfl : (rows.take r.length).length = r.length := by rw [List.length_take]; omega
        have HSL := Lib.hid (samelists_any r (rows.take r.length) B2 Ar d2 cr w3 HR3.out.row hfr)
        rw [hfl, hrl] at HSL
        clear hb3 HSM HT2 HJ2 HR2 hfr hfl
        by_cases k4 : L = (rows.map BX.b).take L.length
        · have hd : r.map BX.b = (rows.take L.length).map BX.b := by rw [HM2.out, List.map_take]; exact k4
          rw [decide_eq_true hd] at HSL
          obtain rfl : ok = true := HOK.out.symm.trans (decide_eq_true ⟨rfl, k2, by rw [List.length_map]; exact k3, k4⟩)
          clear hd k4 HOK
          go_wp2_with fail
          refine HSL.out.mono ?_
          rintro e w4 ⟨rfl, hb4⟩
          have HT4 := Lib.hid (HT3.out.trans (Turn.below hb4))
          have HJ4 := Lib.hid (HJ3.out.below hb4)
          clear hb4 HSL HT3 HJ3 HR3
          have k5 := Lib.run_convert_bytes_const (P := Try.prog) w4 29 5 #[.int .u8 109, .int .u8 111, .int .u8 114, .int .u8 101] 4 4 Try.underlying29 Try.underlying5
          have b5 : Below w4.heap.size w4 (w4.alloc (.cells #[.int .u8 109, .int .u8 111, .int .u8 114, .int .u8 101] 5 (4, 5))) := (Below.refl _ _).alloc (Nat.le_refl _) _
          have HA := Lib.hid (jappend_any (HJ4.out.below b5) hT (by omega) (b := moreB) (sl_more w4 (4, 5)) (by decide))
          have HT5 := Lib.hid (HT4.out.trans (Turn.below b5))
          rw [HM.out.1] at HA
          clear b5 HT4 HJ4
          go_wp2_with fail
          refine HA.out.mono ?_
          rintro e w6 ⟨rfl, who6, hj6, ht6⟩
          rw [HM.out.2.1] at hj6
          have HS := Lib.hid (jsync_any hj6 hT (by show n + 1 + (16 + 4) ≤ _; omega))
          rw [HM.out.2.2.1, HM.out.2.2.2.1] at HS
          have HT6 := Lib.hid (HT5.out.trans ht6)
          clear hj6 ht6 HA HT5 k5
          go_wp2_with fail
          refine HS.out.mono ?_
          rintro e w7 ⟨rfl, who7, hj7, ht7⟩
          have HR7 := Lib.hid (hj7.ds.restart hT (by show n + 1 + (16 + 4) ≤ _; omega) 0 (by omega))
          rw [HM.out.2.2.2.2.1] at HR7
          have HT7 := Lib.hid (HT6.out.trans ht7)
          clear hj7 ht7 HS HT6
          go_wp2_with fail
          refine HR7.out.mono ?_
          rintro e w8 ⟨rfl, who8, hD8, ht8⟩
          have HO8 := Lib.hid (open_any _ _ _ _ _ _ _ hD8 hT (by show n + 1 + (16 + 4) + 1 ≤ _; omega) rfl HM.out.2.2.2.2.2.1)
          have HT8 := Lib.hid (HT7.out.trans (ht8.wider (Nat.le_refl _) (show T + 26 ≤ T + 27 by omega)))
          clear hD8 ht8 HR7 HT7
          go_wp2_with fail
          refine HO8.out.mono ?_
          rintro e w9 ⟨gj9, A9, c9, B9, d9, r9, who9, rfl, hj9, ht9, hs9, hrz, hrm, _⟩
          rw [HM.out.2.2.2.2.2.2.1] at hs9 ⊢
          rw [HM.out.2.2.2.2.2.2.2] at hrm
          have HT9 := Lib.hid (HT8.out.trans ht9)
          have HF9 := Lib.hid hj9.ds.fresh
          have hr9 : r9.length = L.length + 1 := by rw [← List.length_map (f := BX.b), hrm, List.length_append]; rfl
          obtain ⟨x, hx⟩ : ∃ x, r9[L.length]? = some x := ⟨_, List.getElem?_eq_getElem (by omega)⟩
          have hxb : x.b = moreB := by
            have h1 : (r9.map BX.b)[L.length]? = some x.b := by rw [List.getElem?_map, hx]; rfl
            rw [hrm, List.getElem?_append_right (Nat.le_refl _), Nat.sub_self] at h1
            exact (Option.some.inj h1).symm
          obtain ⟨xA, xc, xb⟩ := x
          have hxb : xb = moreB := hxb
          subst hxb
          obtain ⟨gr, or, rfl, hrow⟩ := hrz.row.row (by omega)
          have hsx := (hrz.each _ (List.mem_of_getElem? hx)).sl.bytes
          have cx0 := hrow _ _ hx
          have HSM := Lib.hid (frsame_any st' st' A9 As c9 cs w9 hs9.sl.bytes (HST.out _ _ HT9.out).bytes)
          rw [show (st' == st') = true from BEq.rfl] at HSM
          have HCX := Lib.hid (fun W (hb : Below w9.heap.size w9 W) => (show W.cell? ⟨gr, or + L.length, none⟩ = some (.slice xA 4 xc) from (hb.cell (p := ⟨gr, or + L.length, none⟩) (World.block_lt_of_cell? w9 (a := ⟨gr, or + L.length, none⟩) cx0)).trans cx0))
          have HST9 := Lib.hid (fun W (hb : Below w9.heap.size w9 W) => (show (convert 29 9 (.slice xA 4 xc)).run Try.prog W = .ok (.string ⟨#[109, 111, 114, 101]⟩) W from fr_str W xA xc moreB (hsx.below hb)))
          have hcap := hrz.row.cap
          rw [hr9] at hcap
          have hcap : (L.length : Int) < (d9 : Int) := by omega
          have hix : (L.length : Int) < ((L.length + 1 : Nat) : Int) := by omega
          rw [hr9]
          clear hrz hrm ht9 hs9 hrow hj9 HO8 HT8 hsx cx0 hx hr9
          go_wp2_with fail
          refine HSM.out.mono ?_
          rintro e w10 ⟨rfl, hb10⟩
          have HT10 := Lib.hid (HT9.out.trans (Turn.below hb10))
          have HF10 := Lib.hid (HF9.out.size hb10.size)
          have cx := HCX.out w10 hb10
          have rx := HST9.out w10 hb10
          clear hb10 HSM HT9 HF9
          go_wp2_with fail
          go_ret
          exact ⟨rfl, _, HT10.out, HF10.out⟩
        · have hd : r.map BX.b ≠ (rows.take L.length).map BX.b := by rw [HM2.out, List.map_take]; exact k4
          rw [decide_eq_false hd] at HSL
          obtain rfl : ok = false := HOK.out.symm.trans (decide_eq_false fun h => k4 h.2.2.2)
          clear hd k4 HOK
          go_wp2_with fail
          refine HSL.out.mono ?_
          rintro e w4 ⟨rfl, hb4⟩
          have HT4 := Lib.hid (HT3.out.trans (Turn.below hb4))
          have HF4 := Lib.hid (HJ3.out.below hb4).ds.fresh
          clear hb4 HSL HT3 HJ3 HR3
          go_wp2_with fail
          go_ret
          exact ⟨rfl, _, HT4.out, HF4.out⟩
      · have q3 : ((rows.length : Int) < (L.length : Int)) = True := eq_true (by omega)
        obtain rfl : ok = false := HOK.out.symm.trans (decide_eq_false fun h => k3 (by have := h.2.2.1; rwa [List.length_map] at this))
        go_wp2_with fail
        refine HSM.out.mono ?_
        rintro e w3 ⟨rfl, hb3⟩
        have HT3 := Lib.hid (HT2.out.trans (Turn.below hb3))
        have HF3 := Lib.hid (HJ2.out.below hb3).ds.fresh
        clear hb3 HSM HT2 HJ2 HR2
        go_wp2_with fail
        go_ret
        exact ⟨rfl, _, HT3.out, HF3.out⟩
    · have q2 : ((L.length : Int) < (s : Int)) = True := eq_true (by omega)
      obtain rfl : ok = false := HOK.out.symm.trans (decide_eq_false fun h => k2 h.2.1)
      go_wp2_with fail
      refine HSM.out.mono ?_
      rintro e w3 ⟨rfl, hb3⟩
      have HT3 := Lib.hid (HT2.out.trans (Turn.below hb3))
      have HF3 := Lib.hid (HJ2.out.below hb3).ds.fresh
      clear hb3 HSM HT2 HJ2 HR2
      go_wp2_with fail
      go_ret
      exact ⟨rfl, _, HT3.out, HF3.out⟩
  · rw [show (st' == st) = false from beq_eq_false_iff_ne.2 k1] at HSM
    obtain rfl : ok = false := HOK.out.symm.trans (decide_eq_false fun h => k1 h.1)
    go_wp2_with fail
    refine HSM.out.mono ?_
    rintro e w3 ⟨rfl, hb3⟩
    have HT3 := Lib.hid (HT2.out.trans (Turn.below hb3))
    have HF3 := Lib.hid (HJ2.out.below hb3).ds.fresh
    clear hb3 HSM HT2 HJ2 HR2
    go_wp2_with fail
    go_ret
    exact ⟨rfl, _, HT3.out, HF3.out⟩
end
end Go.Proofs.Ytojkifcclgecoaa
