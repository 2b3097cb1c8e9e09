/-
  A journal's disk of three areas whose power is not armed. Plain.
-/
import Derived.Test.YtojkifcclgecoaaJnPlain
namespace Go.Proofs.Ytojkifcclgecoaa
open Go Go.Proofs.Ytojkifcclgecoaa.Dk

def jd (a b c : DAr) (r : Nat) : DDk := ⟨[a, b, c], r, none, false⟩
def zA : DAr := ⟨[], []⟩
/-- An area all of whose bytes last. -/
def sA (b : Bs) : DAr := ⟨b, []⟩
theorem sA_now (b : Bs) : (sA b).now = b := rfl
theorem jd_new (r : Nat) (h : r ≤ 4194304) : DDk.new 3 (r : Int) = jd zA zA zA r := by
  unfold DDk.new jd
  rw [show (min (max (r : Int) 0) 4194304).toNat = r by omega]; rfl
section
variable (a b c : DAr) (r : Nat)
theorem jd_calm : (jd a b c r).calm := ⟨rfl, rfl⟩
theorem jd_read0 : (jd a b c r).readL 0 = a.now := readL_at (i := 0) rfl
theorem jd_read1 : (jd a b c r).readL 1 = b.now := readL_at (i := 1) rfl
theorem jd_read2 : (jd a b c r).readL 2 = c.now := readL_at (i := 2) rfl
theorem jd_used : (jd a b c r).used = a.now.length + b.now.length + c.now.length := by
  show usedL [a, b, c] = _
  unfold usedL
  simp only [List.map_cons, List.map_nil, List.sum_cons, List.sum_nil]; omega
theorem now_more (x : DAr) (s : Bs) : (⟨x.l, x.p ++ s.map .byte⟩ : DAr).now = x.now ++ s := by unfold DAr.now; rw [runS_append, runS_bytes]
theorem now_cut (x : DAr) (k : Nat) : (⟨x.l, x.p ++ [.cut k]⟩ : DAr).now = x.now.take k := by unfold DAr.now; rw [runS_append]; rfl
theorem jd_append (s : Bs) (h : a.now.length + b.now.length + c.now.length + s.length ≤ r) : appendE (jd a b c r) 2 s = 0 ∧ appendD (jd a b c r) 2 s = jd a b ⟨c.l, c.p ++ s.map .byte⟩ r :=
  calm_append (jd_calm a b c r) (i := 2) (by show 2 < 3; omega) (by rw [jd_used]; exact h)
theorem jd_full (s : Bs) (h : r < a.now.length + b.now.length + c.now.length + s.length) : appendE (jd a b c r) 2 s = 8 ∧ appendD (jd a b c r) 2 s = jd a b c r :=
  calm_full (jd_calm a b c r) (i := 2) (by show 2 < 3; omega) (by rw [jd_used]; exact h)
theorem jd_sync : syncE (jd a b c r) 2 = 0 ∧ syncD (jd a b c r) 2 = jd a b (sA c.now) r := calm_sync (jd_calm a b c r) (i := 2) (by show 2 < 3; omega)
theorem jd_leave (k : Nat) (h : k ≤ c.now.length) : leaveE (jd a b c r) k = 0 ∧ leaveD (jd a b c r) k = jd a b (sA (c.now.take k)) r := by
  obtain ⟨h1, h2⟩ := calm_cut (jd_calm a b c r) (i := 2) (k := k) (by show 2 < 3; omega) (by rw [show ((2 : Nat) : Int) = 2 from rfl, jd_read2]; exact h)
  have h1 : cutE (jd a b c r) 2 k = 0 := h1
  have h2 : cutD (jd a b c r) 2 k = jd a b ⟨c.l, c.p ++ [.cut k]⟩ r := h2
  obtain ⟨h3, h4⟩ := jd_sync a b ⟨c.l, c.p ++ [.cut k]⟩ r
  unfold leaveE leaveD
  rw [if_pos h1, if_pos h1, h2, h3, h4, now_cut]
  exact ⟨rfl, rfl⟩
theorem keep_s (k : Nat) (s : Bs) : keepA k (sA s) = sA s := by unfold keepA sA; rw [List.take_nil]; rfl
theorem jd_restart (k : Int) : (jd a b c r).restart k = jd (keepA k.toNat a) (keepA k.toNat b) (keepA k.toNat c) r := rfl
/-- Checkpoint, where there is room. -/
theorem jd_cp0 (q : Nat) (s : Bs) (hq : (q + 1) % 2 = 0) (h : b.now.length + c.now.length + (16 + s.length) ≤ r) :
    cpE (jd a b c r) q s = 0 ∧ cpD (jd a b c r) q s = jd (sA (numbF (q + 1) s)) b (sA []) r ∧ cpQ (jd a b c r) q s = q + 1 := by
  have hs : slotI q = 0 := by unfold slotI; omega
  have h1 : cutE (jd a b c r) 0 0 = 0 ∧ cutD (jd a b c r) 0 0 = jd ⟨a.l, a.p ++ [.cut 0]⟩ b c r := calm_cut (jd_calm a b c r) (i := 0) (k := 0) (by show 0 < 3; omega) (Nat.zero_le _)
  have e1 : (⟨a.l, a.p ++ [.cut 0]⟩ : DAr).now = [] := by rw [now_cut]; rfl
  have h2 : appendE (jd ⟨a.l, a.p ++ [.cut 0]⟩ b c r) 0 (numbF (q + 1) s) = 0 ∧ appendD (jd ⟨a.l, a.p ++ [.cut 0]⟩ b c r) 0 (numbF (q + 1) s) = jd ⟨a.l, (a.p ++ [.cut 0]) ++ (numbF (q + 1) s).map .byte⟩ b c r :=
    calm_append (jd_calm _ b c r) (i := 0) (by show 0 < 3; omega) (by rw [jd_used, e1, numbF_length, List.length_nil]; show _ ≤ r; omega)
  have e2 : (⟨a.l, (a.p ++ [.cut 0]) ++ (numbF (q + 1) s).map .byte⟩ : DAr).now = numbF (q + 1) s := by
    have := now_more ⟨a.l, a.p ++ [.cut 0]⟩ (numbF (q + 1) s)
    rw [e1] at this; exact this
  have h3 : syncE (jd ⟨a.l, (a.p ++ [.cut 0]) ++ (numbF (q + 1) s).map .byte⟩ b c r) 0 = 0 ∧ syncD (jd ⟨a.l, (a.p ++ [.cut 0]) ++ (numbF (q + 1) s).map .byte⟩ b c r) 0 = jd (sA (⟨a.l, (a.p ++ [.cut 0]) ++ (numbF (q + 1) s).map .byte⟩ : DAr).now) b c r := calm_sync (jd_calm _ b c r) (i := 0) (by show 0 < 3; omega)
  rw [e2] at h3
  obtain ⟨h4, h5⟩ := jd_leave (sA (numbF (q + 1) s)) b c r 0 (Nat.zero_le _)
  have d1 : ck1 (jd a b c r) q = jd ⟨a.l, a.p ++ [.cut 0]⟩ b c r := by unfold ck1; rw [hs]; exact h1.2
  have d2 : ck2 (jd a b c r) q s = jd ⟨a.l, (a.p ++ [.cut 0]) ++ (numbF (q + 1) s).map .byte⟩ b c r := by unfold ck2; rw [d1, hs]; exact h2.2
  have d3 : ck3 (jd a b c r) q s = jd (sA (numbF (q + 1) s)) b c r := by unfold ck3; rw [d2, hs]; exact h3.2
  have f0 : ckE (jd a b c r) q s 0 = 0 := by show cutE _ (slotI q) 0 = 0; rw [hs]; exact h1.1
  have f1 : ckE (jd a b c r) q s 1 = 0 := by show appendE (ck1 _ q) (slotI q) _ = 0; rw [d1, hs]; exact h2.1
  have f2 : ckE (jd a b c r) q s 2 = 0 := by show syncE (ck2 _ q s) (slotI q) = 0; rw [d2, hs]; exact h3.1
  have f3 : ckE (jd a b c r) q s 3 = 0 := by show leaveE (ck3 _ q s) 0 = 0; rw [d3]; exact h4
  have f4 : ckD (jd a b c r) q s 4 = jd (sA (numbF (q + 1) s)) b (sA []) r := by show leaveD (ck3 _ q s) 0 = _; rw [d3]; exact h5
  unfold cpE cpD cpQ
  rw [inO_four, f0, f1, f2, f3]
  exact ⟨rfl, f4, rfl⟩
theorem jd_cp1 (q : Nat) (s : Bs) (hq : (q + 1) % 2 = 1) (h : a.now.length + c.now.length + (16 + s.length) ≤ r) :
    cpE (jd a b c r) q s = 0 ∧ cpD (jd a b c r) q s = jd a (sA (numbF (q + 1) s)) (sA []) r ∧ cpQ (jd a b c r) q s = q + 1 := by
  have hs : slotI q = 1 := by unfold slotI; omega
  have h1 : cutE (jd a b c r) 1 0 = 0 ∧ cutD (jd a b c r) 1 0 = jd a ⟨b.l, b.p ++ [.cut 0]⟩ c r := calm_cut (jd_calm a b c r) (i := 1) (k := 0) (by show 1 < 3; omega) (Nat.zero_le _)
  have e1 : (⟨b.l, b.p ++ [.cut 0]⟩ : DAr).now = [] := by rw [now_cut]; rfl
  have h2 : appendE (jd a ⟨b.l, b.p ++ [.cut 0]⟩ c r) 1 (numbF (q + 1) s) = 0 ∧ appendD (jd a ⟨b.l, b.p ++ [.cut 0]⟩ c r) 1 (numbF (q + 1) s) = jd a ⟨b.l, (b.p ++ [.cut 0]) ++ (numbF (q + 1) s).map .byte⟩ c r :=
    calm_append (jd_calm a _ c r) (i := 1) (by show 1 < 3; omega) (by rw [jd_used, e1, numbF_length, List.length_nil]; show _ ≤ r; omega)
  have e2 : (⟨b.l, (b.p ++ [.cut 0]) ++ (numbF (q + 1) s).map .byte⟩ : DAr).now = numbF (q + 1) s := by
    have := now_more ⟨b.l, b.p ++ [.cut 0]⟩ (numbF (q + 1) s)
    rw [e1] at this; exact this
  have h3 : syncE (jd a ⟨b.l, (b.p ++ [.cut 0]) ++ (numbF (q + 1) s).map .byte⟩ c r) 1 = 0 ∧ syncD (jd a ⟨b.l, (b.p ++ [.cut 0]) ++ (numbF (q + 1) s).map .byte⟩ c r) 1 = jd a (sA (⟨b.l, (b.p ++ [.cut 0]) ++ (numbF (q + 1) s).map .byte⟩ : DAr).now) c r := calm_sync (jd_calm a _ c r) (i := 1) (by show 1 < 3; omega)
  rw [e2] at h3
  obtain ⟨h4, h5⟩ := jd_leave a (sA (numbF (q + 1) s)) c r 0 (Nat.zero_le _)
  have d1 : ck1 (jd a b c r) q = jd a ⟨b.l, b.p ++ [.cut 0]⟩ c r := by unfold ck1; rw [hs]; exact h1.2
  have d2 : ck2 (jd a b c r) q s = jd a ⟨b.l, (b.p ++ [.cut 0]) ++ (numbF (q + 1) s).map .byte⟩ c r := by unfold ck2; rw [d1, hs]; exact h2.2
  have d3 : ck3 (jd a b c r) q s = jd a (sA (numbF (q + 1) s)) c r := by unfold ck3; rw [d2, hs]; exact h3.2
  have f0 : ckE (jd a b c r) q s 0 = 0 := by show cutE _ (slotI q) 0 = 0; rw [hs]; exact h1.1
  have f1 : ckE (jd a b c r) q s 1 = 0 := by show appendE (ck1 _ q) (slotI q) _ = 0; rw [d1, hs]; exact h2.1
  have f2 : ckE (jd a b c r) q s 2 = 0 := by show syncE (ck2 _ q s) (slotI q) = 0; rw [d2, hs]; exact h3.1
  have f3 : ckE (jd a b c r) q s 3 = 0 := by show leaveE (ck3 _ q s) 0 = 0; rw [d3]; exact h4
  have f4 : ckD (jd a b c r) q s 4 = jd a (sA (numbF (q + 1) s)) (sA []) r := by show leaveD (ck3 _ q s) 0 = _; rw [d3]; exact h5
  unfold cpE cpD cpQ
  rw [inO_four, f0, f1, f2, f3]
  exact ⟨rfl, f4, rfl⟩
theorem jd_cpfull (q : Nat) (s : Bs) (hq : (q + 1) % 2 = 1) (h : r < a.now.length + c.now.length + (16 + s.length)) :
    cpE (jd a b c r) q s = 8 ∧ cpD (jd a b c r) q s = jd a ⟨b.l, b.p ++ [.cut 0]⟩ c r ∧ cpQ (jd a b c r) q s = q := by
  have hs : slotI q = 1 := by unfold slotI; omega
  have h1 : cutE (jd a b c r) 1 0 = 0 ∧ cutD (jd a b c r) 1 0 = jd a ⟨b.l, b.p ++ [.cut 0]⟩ c r := calm_cut (jd_calm a b c r) (i := 1) (k := 0) (by show 1 < 3; omega) (Nat.zero_le _)
  have e1 : (⟨b.l, b.p ++ [.cut 0]⟩ : DAr).now = [] := by rw [now_cut]; rfl
  have h2 : appendE (jd a ⟨b.l, b.p ++ [.cut 0]⟩ c r) 1 (numbF (q + 1) s) = 8 ∧ appendD (jd a ⟨b.l, b.p ++ [.cut 0]⟩ c r) 1 (numbF (q + 1) s) = jd a ⟨b.l, b.p ++ [.cut 0]⟩ c r :=
    calm_full (jd_calm a _ c r) (i := 1) (by show 1 < 3; omega) (by rw [jd_used, e1, numbF_length, List.length_nil]; show r < _; omega)
  have d1 : ck1 (jd a b c r) q = jd a ⟨b.l, b.p ++ [.cut 0]⟩ c r := by unfold ck1; rw [hs]; exact h1.2
  have d2 : ck2 (jd a b c r) q s = jd a ⟨b.l, b.p ++ [.cut 0]⟩ c r := by unfold ck2; rw [d1, hs]; exact h2.2
  have f0 : ckE (jd a b c r) q s 0 = 0 := by show cutE _ (slotI q) 0 = 0; rw [hs]; exact h1.1
  have f1 : ckE (jd a b c r) q s 1 = 8 := by show appendE (ck1 _ q) (slotI q) _ = 8; rw [d1, hs]; exact h2.1
  unfold cpE cpD cpQ
  rw [inO_four, f0, f1]
  exact ⟨rfl, d2, rfl⟩
/-- What is opened. -/
theorem jd_open : openO (jd a b c r) = newL [a.now, b.now] ∧ openR (jd a b c r) = recL (seqO (newL [a.now, b.now])) c.now ∧ openE (jd a b c r) = 0 ∧
    openD (jd a b c r) = if lenR (recL (seqO (newL [a.now, b.now])) c.now) < c.now.length then jd a b (sA (c.now.take (lenR (recL (seqO (newL [a.now, b.now])) c.now)))) r else jd a b c r := by
  have h1 : openO (jd a b c r) = newL [a.now, b.now] := by unfold openO; rw [jd_read0, jd_read1]
  have h2 : openR (jd a b c r) = recL (seqO (newL [a.now, b.now])) c.now := by unfold openR; rw [h1, jd_read2]
  obtain ⟨h3, h4⟩ := jd_leave a b c r (lenR (recL (seqO (newL [a.now, b.now])) c.now)) (lenR_le _ _)
  refine ⟨h1, h2, ?_, ?_⟩
  · unfold openE
    rw [if_neg (by show ¬ (false = true); decide), h2, jd_read2, h3]
    split <;> rfl
  · unfold openD
    rw [if_neg (by show ¬ (false = true); decide), h2, jd_read2, h4]
end
theorem newL_two (x y : Bs) : newL [x, y] = newStep (newStep none x) y := rfl
/-- A slot that was laid. -/
theorem new_first {q : Nat} {s t : Bs} (hq : q < 2 ^ 64) (hs : s.length ≤ 65528) : newStep none (numbF q s ++ t) = some (q, s) := newStep_first (numb_join hq hs)
end Go.Proofs.Ytojkifcclgecoaa
