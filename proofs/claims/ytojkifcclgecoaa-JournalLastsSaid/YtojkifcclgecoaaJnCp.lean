/-
  journal.inOrder: steps, one behind the other, till one fails. · A journal in memory; Seq, Used, Sync, Append. · Journal: leave, Checkpoint. · Journal: leave, Checkpoint. · Journal: Checkpoint.
-/
import Derived.Test.YtojkifcclgecoaaJnRec
import Derived.Shelf.Abstract
import Derived.Test.YtojkifcclgecoaaDkSide
import Derived.Deep.RegionHeld3
import Derived.BigQuiet
import Derived.Test.YtojkifcclgecoaaDkStep
namespace Go.Proofs.Ytojkifcclgecoaa
open Go Go.RowKit Go.Shelf Go.Proofs

theorem inO_stops (E : Nat → Nat) : ∀ (n s k : Nat), (∀ j, j < k → E (s + j) = 0) → k < n → E (s + k) ≠ 0 → inO E s n = (E (s + k), k + 1)
  | 0, _, _, _, h, _ => by omega
  | n + 1, s, 0, _, _, h => by have h : E s ≠ 0 := h; unfold inO; rw [if_neg h]; rfl
  | n + 1, s, k + 1, h0, hk, h => by
    have h1 : E s = 0 := h0 0 (by omega)
    have h2 := inO_stops E n (s + 1) k (fun j hj => by have := h0 (j + 1) (by omega); rwa [show s + (j + 1) = s + 1 + j by omega] at this) (by omega) (by rwa [show s + 1 + k = s + (k + 1) by omega])
    unfold inO
    rw [if_pos h1, h2, show s + 1 + k = s + (k + 1) by omega]
theorem inO_all (E : Nat → Nat) : ∀ (n s : Nat), (∀ j, j < n → E (s + j) = 0) → inO E s n = (0, n)
  | 0, _, _ => rfl
  | n + 1, s, h => by
    have h1 : E s = 0 := h 0 (by omega)
    have h2 := inO_all E n (s + 1) (fun j hj => by have := h (j + 1) (by omega); rwa [show s + (j + 1) = s + 1 + j by omega] at this)
    unfold inO
    rw [if_pos h1, h2]
/-- A function value: its function, what is bound ahead, what is captured. -/
structure FnV where
  f : Nat
  bound : Array Value
  cap : Array Value
def FnV.v (x : FnV) : Value := .func (.func x.f) x.bound x.cap

set_option maxHeartbeats 4000000 in
theorem inOrder_any (fs : List FnV) (g o c : Nat) (E : Nat → Nat) (I : Nat → World → Prop) (w : World) (h0 : I 0 w) (hc : fs.length ≤ c) (hcm : c ≤ maxLen) (hE : ∀ k, E k ≤ 100) (hen : ∀ x ∈ fs, Enters Try.prog x.f)
    (hrow : ∀ k W, I k W → ∀ j x, fs[j]? = some x → W.cell? ⟨g, o + j, none⟩ = some x.v)
    (hstep : ∀ k x W, fs[k]? = some x → I k W → Calls Try.prog x.f (x.bound ++ x.cap) W fun e W' => e = .returned (.int .i64 (E k : Nat)) ∧ I (k + 1) W') :
    Calls Try.prog 44 #[.slice (some ⟨g, o, none⟩) fs.length c] w fun e w' => e = .returned (.int .i64 ((inO E 0 fs.length).1 : Nat)) ∧ I (inO E 0 fs.length).2 w' := by
  have HI0 := Lib.hid h0
  have HROW := Lib.hid hrow
  have HSTEP := Lib.hid hstep
  have HSTOP := Lib.hid (fun k => inO_stops E fs.length 0 k)
  have HALL := Lib.hid (inO_all E fs.length 0)
  have hcm2 : c ≤ 9223372036854775807 := by unfold maxLen at hcm; omega
  clear h0 hrow hstep hcm
  go_enter Try.func44, Try.ntmps44
  go_wp2_with fail
  go_loopw [8] (fun i wr => ∃ (k : Nat), k ≤ fs.length ∧ i = .int .i64 k ∧ Hid (∀ j, j < k → E j = 0) ∧ Hid (I k wr)) (fun i _ => fs.length - (intOf i).toNat)
  case atStart => exact ⟨0, Nat.zero_le _, rfl, (show ∀ j, j < 0 → E j = 0 from fun j hj => absurd hj (by omega)), HI0⟩
  case round =>
    obtain ⟨k, hk, rfl, HE, HI⟩ := hrel
    by_cases h1 : k < fs.length
    · obtain ⟨x, hx⟩ : ∃ x, fs[k]? = some x := ⟨_, List.getElem?_eq_getElem h1⟩
      have c1 := HROW.out k wr HI.out k x hx
      obtain ⟨f, bd, cp⟩ := x
      replace c1 : wr.cell? ⟨g, o + k, none⟩ = some (.func (.func f) bd cp) := c1
      have HC := Lib.hid (HSTEP.out k _ wr hx HI.out)
      have k1 : (k : Int) < (fs.length : Int) := by omega
      have k2 : (k : Int) < (c : Int) := by omega
      have e1 := hen _ (List.mem_of_getElem? hx) (bd ++ cp) wr
      have e1 : (callFunc f (bd ++ cp)).run Try.prog wr = .ok (.enter f (bd ++ cp)) wr := e1
      have HC : Hid (Calls Try.prog f (bd ++ cp) wr fun e W' => e = .returned (.int .i64 (E k : Nat)) ∧ I (k + 1) W') := HC
      clear hx
      go_wp2_with fail
      refine HC.out.mono ?_
      clear HC e1 c1
      rintro e w1 ⟨rfl, hI⟩
      have HI1 := Lib.hid hI
      have hE1 := hE k
      obtain ⟨ek, hek⟩ : ∃ ek, E k = ek := ⟨_, rfl⟩
      rw [hek] at hE1 ⊢
      have HEK := Lib.hid hek
      clear hI hek
      by_cases he : ek = 0
      · subst he
        go_wp2_with fail
        go_roundw
        case rel => exact ⟨k + 1, by omega, by go_num, (show ∀ j, j < k + 1 → E j = 0 from fun j hj => by
          by_cases e : j = k
          · subst e; exact HEK.out
          · exact HE.out j (by omega)), HI1⟩
        case measure => simp [intOf]; omega
      · have q1 : ((ek : Int) = 0) = False := eq_false (by omega)
        have q2 : ((ek : Int) != 0) = true := by simp; omega
        have hr := HSTOP.out k (fun j hj => by rw [Nat.zero_add]; exact HE.out j hj) h1 (by rw [Nat.zero_add, HEK.out]; exact he)
        rw [Nat.zero_add, HEK.out] at hr
        have HRR := Lib.hid hr
        clear hr
        go_wp2_with fail
        go_ret
        rw [HRR.out]
        exact ⟨rfl, HI1.out⟩
    · obtain rfl : k = fs.length := by omega
      have hr := HALL.out (fun j hj => by rw [Nat.zero_add]; exact HE.out j hj)
      go_wp2_with fail
      go_ret
      rw [hr]
      exact ⟨rfl, HI.out⟩
end Go.Proofs.Ytojkifcclgecoaa
namespace Go.Proofs.Ytojkifcclgecoaa
open Go Go.RowKit Go.Shelf Go.Proofs Go.Proofs.Ytojkifcclgecoaa.Dk

/-- The disk's texts speak of bytes by the same words. -/
theorem SlAt.dk {w : World} {A : Option Addr} {c : Nat} {b : Bs} (h : SlAt w A c b) : Dk.SlAt w A c b := ⟨h.bytes, h.cap, h.capm, h.nil⟩
theorem dk_sl {w : World} {A : Option Addr} {c : Nat} {b : Bs} (h : Dk.SlAt w A c b) : SlAt w A c b := ⟨h.bytes, h.cap, h.capm, h.nil⟩
theorem dk_ob {B : Nat} {w : World} {v : Value} {b : Bs} (h : Dk.OB B w v b) : OB B w v b := h
/-- What is new is nobody's. -/
theorem NewA.who {n : Nat} {A : Option Addr} {who : Nat → Nat} {w : World} (h : NewA n A) (hf : Fresh who w) (hn : w.heap.size ≤ n) : ∀ q o, A = some ⟨q, o, Option.none⟩ → who q = 0 := fun q _o e => hf q (Nat.le_trans hn (h _ e))

/-- A journal: its block, whose tag is the one behind its disk's. -/
structure JS (B : Nat) (who : Nat → Nat) (w : World) (T g gj : Nat) (d : DDk) (n q : Nat) : Prop where
  ds : DS B who w T g d n
  jb : w.heap[gj]? = some (.cells #[.pointer (some ⟨g, 0, none⟩), .int .u64 (q : Nat)] 78 (0, 0))
  wj : who gj = T + 26
  q64 : q < 2 ^ 64
theorem JS.lt {B : Nat} {who : Nat → Nat} {w : World} {T g gj n q : Nat} {d : DDk} (h : JS B who w T g gj d n q) : gj < w.heap.size := (Array.getElem?_eq_some_iff.1 h.jb).1
theorem JS.below {B : Nat} {who : Nat → Nat} {w w' : World} {T g gj n q : Nat} {d : DDk} (h : JS B who w T g gj d n q) (hb : Below w.heap.size w w') : JS B who w' T g gj d n q := ⟨h.ds.below hb, (hb.block _ h.lt).trans h.jb, h.wj, h.q64⟩
theorem JS.mono {B : Nat} {who : Nat → Nat} {w : World} {T g gj n m q : Nat} {d : DDk} (h : JS B who w T g gj d n q) (hm : n ≤ m) : JS B who w T g gj d m q := ⟨h.ds.mono hm, h.jb, h.wj, h.q64⟩
theorem JS.cells {B : Nat} {who : Nat → Nat} {w : World} {T g gj n q : Nat} {d : DDk} (h : JS B who w T g gj d n q) : w.cell? ⟨gj, 0, none⟩ = some (.pointer (some ⟨g, 0, none⟩)) ∧ w.cell? ⟨gj, 1, none⟩ = some (.int .u64 (q : Nat)) ∧ w.frozen? ⟨gj, 1, none⟩ = false := ⟨cell_of_row w gj 0 _ _ _ h.jb, cell_of_row w gj 1 _ _ _ h.jb, frozen_of_row w gj 1 _ _ h.jb⟩
/-- What the disk does. -/
theorem JS.disk {B : Nat} {who : Nat → Nat} {w w' : World} {T g gj n m q : Nat} {d d' : DDk} (h : JS B who w T g gj d n q) (hp : DP B who w T g d' m w') : ∃ who', JS B who' w' T g gj d' m q ∧ Turn T (T + 26) who w who' w' := by
  obtain ⟨who', h1, h2⟩ := hp
  exact ⟨who', ⟨h1, (h2.block gj h.lt (by rw [h.wj]; omega)).trans h.jb, (h2.same gj h.lt).trans h.wj, h.q64⟩, h2⟩
/-- A journal behind a call. -/
def JP (B : Nat) (who : Nat → Nat) (w : World) (T g gj : Nat) (d : DDk) (n q : Nat) (w' : World) : Prop := ∃ who', JS B who' w' T g gj d n q ∧ Turn T (T + 27) who w who' w'
theorem JS.jp {B : Nat} {who : Nat → Nat} {w w' : World} {T g gj n m q : Nat} {d d' : DDk} (h : JS B who w T g gj d n q) (hp : DP B who w T g d' m w') : JP B who w T g gj d' m q w' := by
  obtain ⟨who', h1, h2⟩ := h.disk hp
  exact ⟨who', h1, h2.wider (Nat.le_refl _) (by omega)⟩
theorem JS.refl {B : Nat} {who : Nat → Nat} {w : World} {T g gj n q : Nat} {d : DDk} (h : JS B who w T g gj d n q) : JP B who w T g gj d n q w := ⟨who, h, Turn.refl _ _ _ _⟩
theorem JP.first {B : Nat} {who : Nat → Nat} {w w1 w' : World} {T g gj n q : Nat} {d : DDk} (hb : Below w.heap.size w w1) (h : JP B who w1 T g gj d n q w') : JP B who w T g gj d n q w' := by
  obtain ⟨who', h1, h2⟩ := h
  exact ⟨who', h1, (Turn.below hb).trans h2⟩
theorem JP.more {B : Nat} {who who1 : Nat → Nat} {w w1 w' : World} {T g gj n q : Nat} {d : DDk} (ht : Turn T (T + 27) who w who1 w1) (h : JP B who1 w1 T g gj d n q w') : JP B who w T g gj d n q w' := by
  obtain ⟨who', h1, h2⟩ := h
  exact ⟨who', h1, ht.trans h2⟩

section
variable {B : Nat} {who : Nat → Nat} {w : World} {T g gj n q : Nat} {d : DDk}
theorem jseq_any (h : JS B who w T g gj d n q) : Calls Try.prog 22 #[.pointer (some ⟨gj, 0, none⟩)] w fun e w' => e = .returned (.int .u64 (q : Nat)) ∧ w' = w := by
  obtain ⟨c0, c1, f1⟩ := h.cells
  clear h
  go_enter Try.func22, Try.ntmps22
  go_wp2_with fail
  go_ret
  exact ⟨rfl, rfl⟩
set_option maxHeartbeats 1000000 in
theorem jused_any (h : JS B who w T g gj d n q) (hn : n ≤ 1000000) : Calls Try.prog 23 #[.pointer (some ⟨gj, 0, none⟩)] w fun e w' => e = .returned (.int .i64 ((d.readL 2).length : Nat)) ∧ Below w.heap.size w w' := by
  obtain ⟨c0, c1, f1⟩ := h.cells
  have HR := Lib.hid (h.ds.read hn 2)
  clear h c1 f1
  go_enter Try.func23, Try.ntmps23
  go_wp2_with fail
  refine HR.out.mono ?_
  rintro e w1 ⟨v, rfl, ho, hb⟩
  obtain ⟨A, c, rfl, hs, _⟩ := (dk_ob ho).sl
  clear ho hs
  go_wp2_with fail
  go_ret
  exact ⟨rfl, hb⟩
set_option maxHeartbeats 1000000 in
theorem jsync_any (h : JS B who w T g gj d n q) (hT : 0 < T) (hn : n ≤ 1000000) : Calls Try.prog 16 #[.pointer (some ⟨gj, 0, none⟩)] w fun e w' => e = .returned (.int .i64 (syncE d 2 : Nat)) ∧ JP B who w T g gj (syncD d 2) n q w' := by
  obtain ⟨c0, c1, f1⟩ := h.cells
  have HJ := Lib.hid h
  have HS := Lib.hid (h.ds.sync hT hn 2)
  clear h c1 f1
  go_enter Try.func16, Try.ntmps16
  go_wp2_with fail
  refine HS.out.mono ?_
  rintro e w1 ⟨rfl, hp⟩
  go_wp2_with fail
  go_ret
  exact ⟨rfl, HJ.out.jp hp⟩
set_option maxHeartbeats 4000000 in
theorem jappend_any (h : JS B who w T g gj d n q) (hT : 0 < T) (hn : n ≤ 1000000) {A : Option Addr} {c : Nat} {b : Bs} (hs : SlAt w A c b) (hl : b.length ≤ 65528) :
    Calls Try.prog 14 #[.pointer (some ⟨gj, 0, none⟩), .slice A b.length c] w fun e w' => e = .returned (.int .i64 (appendE d 2 (numbF q b) : Nat)) ∧ JP B who w T g gj (appendD d 2 (numbF q b)) (n + (16 + b.length)) q w' := by
  obtain ⟨c0, c1, f1⟩ := h.cells
  have HJ := Lib.hid h
  have HE := Lib.hid (jencode_any q h.q64 b A c w hs hl)
  clear h hs f1
  go_enter Try.func14, Try.ntmps14
  go_wp2_with fail
  refine HE.out.mono ?_
  rintro e w1 ⟨v, rfl, ho, hb⟩
  have hnew := ho
  obtain ⟨A1, k1, rfl, hs1, _⟩ := ho.sl
  have hlen := numbF_length q b
  have hAP := ((HJ.out.below hb).ds.append hT hn 2 hs1.dk hlen (by omega) (fun _ => (hnew.newA).who HJ.out.ds.fresh (Nat.le_refl _)))
  rw [hlen] at hAP ⊢
  have HAP := Lib.hid hAP
  have HJ1 := Lib.hid (HJ.out.below hb)
  have HB := Lib.hid hb
  have c0 := HJ1.out.cells.1
  clear ho hnew hs1 hAP hb hlen HE c1
  go_wp2_with fail
  refine HAP.out.mono ?_
  rintro e w2 ⟨rfl, hp⟩
  go_wp2_with fail
  go_ret
  exact ⟨rfl, (HJ1.out.jp hp).first HB.out⟩
end
end Go.Proofs.Ytojkifcclgecoaa
namespace Go.Proofs.Ytojkifcclgecoaa
open Go Go.RowKit Go.Shelf Go.Proofs Go.Proofs.Ytojkifcclgecoaa.Dk

theorem jn_drew (w : World) : Below w.heap.size w w.drew := ⟨rfl, rfl, rfl, Nat.le_refl _, fun _ _ => rfl⟩
section
variable {B : Nat} {who : Nat → Nat} {w : World} {T g gj n q : Nat} {d : DDk}
set_option maxRecDepth 100000 in
set_option maxHeartbeats 4000000 in
theorem leave1_any (bj bn : Nat) (k : Int) (h : JS B who w T g gj d n q) (hT : 0 < T) (hn : n ≤ 1000000) (h1 : w.cell? ⟨bj, 0, none⟩ = some (.pointer (some ⟨gj, 0, none⟩))) (z1 : who bj = 0) (h2 : w.cell? ⟨bn, 0, none⟩ = some (.int .i64 k)) (z2 : who bn = 0) :
    Calls Try.prog 68 #[.pointer (some ⟨bj, 0, none⟩), .pointer (some ⟨bn, 0, none⟩)] w fun e w' => e = .returned (.int .i64 (cutE d 2 k : Nat)) ∧ JP B who w T g gj (cutD d 2 k) (n + 1) q w' := by
  have hd := h.below (jn_drew w)
  obtain ⟨c0, _, _⟩ := h.cells
  have HC := Lib.hid (hd.ds.cut hT hn 2 k)
  have HJ := Lib.hid hd
  have HB := Lib.hid (jn_drew w)
  clear h
  go_enter Try.func68, Try.ntmps68
  go_wp2_with fail
  refine wp_region_held_drew (S := (fun w' => w'.cell? ⟨bj, 0, none⟩ = some (.pointer (some ⟨gj, 0, none⟩)) ∧ w'.cell? ⟨gj, 0, none⟩ = some (.pointer (some ⟨g, 0, none⟩)) ∧ w'.cell? ⟨bn, 0, none⟩ = some (.int .i64 k))) (by kernel_rfl) ⟨h1, c0, h2⟩ (fun hHeld => ?_)
  refine wpAnyH_take (i := 0) (v := ?vl0) rfl (by kernel_rfl) (by kernel_rfl) (by kernel_rfl) (fun _ _ _ h => h) (Or.inl ⟨by rfl, ?yl0⟩) (by assumption) ?rl0
  case yl0 =>
    intro w hSw
    (try dsimp only at hSw)
    go_simp
    first | done | with_reducible rfl
  try simp only [Act.put, List.getElem_toArray, List.getElem_cons_zero, List.setIfInBounds_toArray, List.set_cons_zero, List.set_cons_succ]
  refine wpAnyH_take (i := 1) (v := ?vl1) rfl (by kernel_rfl) (by kernel_rfl) (by kernel_rfl) (fun _ _ _ h => h) (Or.inl ⟨by rfl, ?yl1⟩) (by assumption) ?rl1
  case yl1 =>
    intro w hSw
    (try dsimp only at hSw)
    go_simp
    first | done | with_reducible rfl
  try simp only [Act.put, List.getElem_toArray, List.getElem_cons_zero, List.getElem_cons_succ, List.setIfInBounds_toArray, List.set_cons_zero, List.set_cons_succ]
  refine wpAnyH_take (i := 2) (v := ?vl2) rfl (by kernel_rfl) (by kernel_rfl) (by kernel_rfl) (fun _ _ _ h => h) (Or.inl ⟨by rfl, ?yl2⟩) (by assumption) ?rl2
  case yl2 =>
    intro w hSw
    (try dsimp only at hSw)
    go_simp
    first | done | with_reducible rfl
  try simp only [Act.put, List.getElem_toArray, List.getElem_cons_zero, List.getElem_cons_succ, List.setIfInBounds_toArray, List.set_cons_zero, List.set_cons_succ]
  refine wpAnyH_take (i := 3) (v := ?vl3) rfl (by kernel_rfl) (by kernel_rfl) (by kernel_rfl) (fun _ _ _ h => h) (Or.inl ⟨by rfl, ?yl3⟩) (by assumption) ?rl3
  case yl3 =>
    intro w hSw
    (try dsimp only at hSw)
    go_simp
    first | done | with_reducible rfl
  try simp only [Act.put, List.getElem_toArray, List.getElem_cons_zero, List.getElem_cons_succ, List.setIfInBounds_toArray, List.set_cons_zero, List.set_cons_succ]
  refine wpAnyH_take (i := 4) (v := ?vl4) rfl (by kernel_rfl) (by kernel_rfl) (by kernel_rfl) (fun _ _ _ h => h) (Or.inl ⟨by rfl, ?yl4⟩) (by assumption) ?rl4
  case yl4 =>
    intro w hSw
    (try dsimp only at hSw)
    go_simp
    first | done | with_reducible rfl
  try simp only [Act.put, List.getElem_toArray, List.getElem_cons_zero, List.getElem_cons_succ, List.setIfInBounds_toArray, List.set_cons_zero, List.set_cons_succ]
  refine wpAnyH_ready (rs := [5]) (by kernel_rfl) (by simp) ?_
  refine AllReadyH.cons rfl (fun K hK => ?_) AllReadyH.nil
  go_simp
  refine (HC.out).mono ?_
  rintro e w2 ⟨rfl, hp⟩
  obtain ⟨who2, hj2, ht2⟩ := HJ.out.disk hp
  have k1 := (World.cell?_of_block (a := ⟨bj, 0, none⟩) (ht2.block bj (World.block_lt_of_cell? _ (a := ⟨bj, 0, none⟩) h1) (by rw [z1]; omega))).trans h1
  have k2 := (World.cell?_of_block (a := ⟨bn, 0, none⟩) (ht2.block bn (World.block_lt_of_cell? _ (a := ⟨bn, 0, none⟩) h2) (by rw [z2]; omega))).trans h2
  have HJ2 := Lib.hid hj2
  have HT2 := Lib.hid ht2
  have c9 := hj2.cells.1
  clear hp hj2 ht2
  go_wp2_with fail
  refine hK.out _ _ ⟨k1, c9, k2⟩ (fun hHeld => ?_)
  clear hK K
  try simp only [Act.put, List.getElem_toArray, List.getElem_cons_zero, List.getElem_cons_succ, List.setIfInBounds_toArray, List.set_cons_zero, List.set_cons_succ]
  refine wpAnyH_take (i := 6) (v := ?vl6) rfl (by kernel_rfl) (by kernel_rfl) (by kernel_rfl) (fun _ _ _ h => h) (Or.inl ⟨by rfl, ?yl6⟩) (by assumption) ?rl6
  case yl6 =>
    intro w hSw
    (try dsimp only at hSw)
    go_simp
    first | done | with_reducible rfl
  try simp only [Act.put, List.getElem_toArray, List.getElem_cons_zero, List.getElem_cons_succ, List.setIfInBounds_toArray, List.set_cons_zero, List.set_cons_succ]
  refine wpAnyH_done (by kernel_rfl) ?_ _
  go_wp2_with fail
  go_ret
  exact ⟨rfl, (show JP B who w.drew T g gj _ _ q _ from ⟨who2, HJ2.out, HT2.out.wider (Nat.le_refl _) (by omega)⟩).first HB.out⟩
set_option maxRecDepth 100000 in
set_option maxHeartbeats 4000000 in
theorem cp1_any (bj bs : Nat) (s : Int) (h : JS B who w T g gj d n q) (hT : 0 < T) (hn : n ≤ 1000000) (h1 : w.cell? ⟨bj, 0, none⟩ = some (.pointer (some ⟨gj, 0, none⟩))) (z1 : who bj = 0) (h2 : w.cell? ⟨bs, 0, none⟩ = some (.int .i64 s)) (z2 : who bs = 0) :
    Calls Try.prog 45 #[.pointer (some ⟨bj, 0, none⟩), .pointer (some ⟨bs, 0, none⟩)] w fun e w' => e = .returned (.int .i64 (cutE d s 0 : Nat)) ∧ JP B who w T g gj (cutD d s 0) (n + 1) q w' := by
  have hd := h.below (jn_drew w)
  obtain ⟨c0, _, _⟩ := h.cells
  have HC := Lib.hid (hd.ds.cut hT hn s 0)
  have HJ := Lib.hid hd
  have HB := Lib.hid (jn_drew w)
  clear h
  go_enter Try.func45, Try.ntmps45
  go_wp2_with fail
  refine wp_region_held_drew (S := (fun w' => w'.cell? ⟨bj, 0, none⟩ = some (.pointer (some ⟨gj, 0, none⟩)) ∧ w'.cell? ⟨gj, 0, none⟩ = some (.pointer (some ⟨g, 0, none⟩)) ∧ w'.cell? ⟨bs, 0, none⟩ = some (.int .i64 s))) (by kernel_rfl) ⟨h1, c0, h2⟩ (fun hHeld => ?_)
  refine wpAnyH_take (i := 0) (v := ?vc0) rfl (by kernel_rfl) (by kernel_rfl) (by kernel_rfl) (fun _ _ _ h => h) (Or.inl ⟨by rfl, ?yc0⟩) (by assumption) ?rc0
  case yc0 =>
    intro w hSw
    (try dsimp only at hSw)
    go_simp
    first | done | with_reducible rfl
  try simp only [Act.put, List.getElem_toArray, List.getElem_cons_zero, List.setIfInBounds_toArray, List.set_cons_zero, List.set_cons_succ]
  refine wpAnyH_take (i := 1) (v := ?vc1) rfl (by kernel_rfl) (by kernel_rfl) (by kernel_rfl) (fun _ _ _ h => h) (Or.inl ⟨by rfl, ?yc1⟩) (by assumption) ?rc1
  case yc1 =>
    intro w hSw
    (try dsimp only at hSw)
    go_simp
    first | done | with_reducible rfl
  try simp only [Act.put, List.getElem_toArray, List.getElem_cons_zero, List.getElem_cons_succ, List.setIfInBounds_toArray, List.set_cons_zero, List.set_cons_succ]
  refine wpAnyH_take (i := 2) (v := ?vc2) rfl (by kernel_rfl) (by kernel_rfl) (by kernel_rfl) (fun _ _ _ h => h) (Or.inl ⟨by rfl, ?yc2⟩) (by assumption) ?rc2
  case yc2 =>
    intro w hSw
    (try dsimp only at hSw)
    go_simp
    first | done | with_reducible rfl
  try simp only [Act.put, List.getElem_toArray, List.getElem_cons_zero, List.getElem_cons_succ, List.setIfInBounds_toArray, List.set_cons_zero, List.set_cons_succ]
  refine wpAnyH_take (i := 3) (v := ?vc3) rfl (by kernel_rfl) (by kernel_rfl) (by kernel_rfl) (fun _ _ _ h => h) (Or.inl ⟨by rfl, ?yc3⟩) (by assumption) ?rc3
  case yc3 =>
    intro w hSw
    (try dsimp only at hSw)
    go_simp
    first | done | with_reducible rfl
  try simp only [Act.put, List.getElem_toArray, List.getElem_cons_zero, List.getElem_cons_succ, List.setIfInBounds_toArray, List.set_cons_zero, List.set_cons_succ]
  refine wpAnyH_take (i := 4) (v := ?vc4) rfl (by kernel_rfl) (by kernel_rfl) (by kernel_rfl) (fun _ _ _ h => h) (Or.inl ⟨by rfl, ?yc4⟩) (by assumption) ?rc4
  case yc4 =>
    intro w hSw
    (try dsimp only at hSw)
    go_simp
    first | done | with_reducible rfl
  try simp only [Act.put, List.getElem_toArray, List.getElem_cons_zero, List.getElem_cons_succ, List.setIfInBounds_toArray, List.set_cons_zero, List.set_cons_succ]
  refine wpAnyH_ready (rs := [5]) (by kernel_rfl) (by simp) ?_
  refine AllReadyH.cons rfl (fun K hK => ?_) AllReadyH.nil
  go_simp
  refine (HC.out).mono ?_
  rintro e w2 ⟨rfl, hp⟩
  obtain ⟨who2, hj2, ht2⟩ := HJ.out.disk hp
  have k1 := (World.cell?_of_block (a := ⟨bj, 0, none⟩) (ht2.block bj (World.block_lt_of_cell? _ (a := ⟨bj, 0, none⟩) h1) (by rw [z1]; omega))).trans h1
  have k2 := (World.cell?_of_block (a := ⟨bs, 0, none⟩) (ht2.block bs (World.block_lt_of_cell? _ (a := ⟨bs, 0, none⟩) h2) (by rw [z2]; omega))).trans h2
  have HJ2 := Lib.hid hj2
  have HT2 := Lib.hid ht2
  have c9 := hj2.cells.1
  clear hp hj2 ht2
  go_wp2_with fail
  refine hK.out _ _ ⟨k1, c9, k2⟩ (fun hHeld => ?_)
  clear hK K
  try simp only [Act.put, List.getElem_toArray, List.getElem_cons_zero, List.getElem_cons_succ, List.setIfInBounds_toArray, List.set_cons_zero, List.set_cons_succ]
  refine wpAnyH_take (i := 6) (v := ?vc6) rfl (by kernel_rfl) (by kernel_rfl) (by kernel_rfl) (fun _ _ _ h => h) (Or.inl ⟨by rfl, ?yc6⟩) (by assumption) ?rc6
  case yc6 =>
    intro w hSw
    (try dsimp only at hSw)
    go_simp
    first | done | with_reducible rfl
  try simp only [Act.put, List.getElem_toArray, List.getElem_cons_zero, List.getElem_cons_succ, List.setIfInBounds_toArray, List.set_cons_zero, List.set_cons_succ]
  refine wpAnyH_done (by kernel_rfl) ?_ _
  go_wp2_with fail
  go_ret
  exact ⟨rfl, (show JP B who w.drew T g gj _ _ q _ from ⟨who2, HJ2.out, HT2.out.wider (Nat.le_refl _) (by omega)⟩).first HB.out⟩
set_option maxRecDepth 100000 in
set_option maxHeartbeats 4000000 in
theorem cp3_any (bj bs : Nat) (s : Int) (h : JS B who w T g gj d n q) (hT : 0 < T) (hn : n ≤ 1000000) (h1 : w.cell? ⟨bj, 0, none⟩ = some (.pointer (some ⟨gj, 0, none⟩))) (z1 : who bj = 0) (h2 : w.cell? ⟨bs, 0, none⟩ = some (.int .i64 s)) (z2 : who bs = 0) :
    Calls Try.prog 48 #[.pointer (some ⟨bj, 0, none⟩), .pointer (some ⟨bs, 0, none⟩)] w fun e w' => e = .returned (.int .i64 (syncE d s : Nat)) ∧ JP B who w T g gj (syncD d s) (n) q w' := by
  have hd := h.below (jn_drew w)
  obtain ⟨c0, _, _⟩ := h.cells
  have HC := Lib.hid (hd.ds.sync hT hn s)
  have HJ := Lib.hid hd
  have HB := Lib.hid (jn_drew w)
  clear h
  go_enter Try.func48, Try.ntmps48
  go_wp2_with fail
  refine wp_region_held_drew (S := (fun w' => w'.cell? ⟨bj, 0, none⟩ = some (.pointer (some ⟨gj, 0, none⟩)) ∧ w'.cell? ⟨gj, 0, none⟩ = some (.pointer (some ⟨g, 0, none⟩)) ∧ w'.cell? ⟨bs, 0, none⟩ = some (.int .i64 s))) (by kernel_rfl) ⟨h1, c0, h2⟩ (fun hHeld => ?_)
  refine wpAnyH_take (i := 0) (v := ?vc0) rfl (by kernel_rfl) (by kernel_rfl) (by kernel_rfl) (fun _ _ _ h => h) (Or.inl ⟨by rfl, ?yc0⟩) (by assumption) ?rc0
  case yc0 =>
    intro w hSw
    (try dsimp only at hSw)
    go_simp
    first | done | with_reducible rfl
  try simp only [Act.put, List.getElem_toArray, List.getElem_cons_zero, List.setIfInBounds_toArray, List.set_cons_zero, List.set_cons_succ]
  refine wpAnyH_take (i := 1) (v := ?vc1) rfl (by kernel_rfl) (by kernel_rfl) (by kernel_rfl) (fun _ _ _ h => h) (Or.inl ⟨by rfl, ?yc1⟩) (by assumption) ?rc1
  case yc1 =>
    intro w hSw
    (try dsimp only at hSw)
    go_simp
    first | done | with_reducible rfl
  try simp only [Act.put, List.getElem_toArray, List.getElem_cons_zero, List.getElem_cons_succ, List.setIfInBounds_toArray, List.set_cons_zero, List.set_cons_succ]
  refine wpAnyH_take (i := 2) (v := ?vc2) rfl (by kernel_rfl) (by kernel_rfl) (by kernel_rfl) (fun _ _ _ h => h) (Or.inl ⟨by rfl, ?yc2⟩) (by assumption) ?rc2
  case yc2 =>
    intro w hSw
    (try dsimp only at hSw)
    go_simp
    first | done | with_reducible rfl
  try simp only [Act.put, List.getElem_toArray, List.getElem_cons_zero, List.getElem_cons_succ, List.setIfInBounds_toArray, List.set_cons_zero, List.set_cons_succ]
  refine wpAnyH_take (i := 3) (v := ?vc3) rfl (by kernel_rfl) (by kernel_rfl) (by kernel_rfl) (fun _ _ _ h => h) (Or.inl ⟨by rfl, ?yc3⟩) (by assumption) ?rc3
  case yc3 =>
    intro w hSw
    (try dsimp only at hSw)
    go_simp
    first | done | with_reducible rfl
  try simp only [Act.put, List.getElem_toArray, List.getElem_cons_zero, List.getElem_cons_succ, List.setIfInBounds_toArray, List.set_cons_zero, List.set_cons_succ]
  refine wpAnyH_take (i := 4) (v := ?vc4) rfl (by kernel_rfl) (by kernel_rfl) (by kernel_rfl) (fun _ _ _ h => h) (Or.inl ⟨by rfl, ?yc4⟩) (by assumption) ?rc4
  case yc4 =>
    intro w hSw
    (try dsimp only at hSw)
    go_simp
    first | done | with_reducible rfl
  try simp only [Act.put, List.getElem_toArray, List.getElem_cons_zero, List.getElem_cons_succ, List.setIfInBounds_toArray, List.set_cons_zero, List.set_cons_succ]
  refine wpAnyH_ready (rs := [5]) (by kernel_rfl) (by simp) ?_
  refine AllReadyH.cons rfl (fun K hK => ?_) AllReadyH.nil
  go_simp
  refine (HC.out).mono ?_
  rintro e w2 ⟨rfl, hp⟩
  obtain ⟨who2, hj2, ht2⟩ := HJ.out.disk hp
  have k1 := (World.cell?_of_block (a := ⟨bj, 0, none⟩) (ht2.block bj (World.block_lt_of_cell? _ (a := ⟨bj, 0, none⟩) h1) (by rw [z1]; omega))).trans h1
  have k2 := (World.cell?_of_block (a := ⟨bs, 0, none⟩) (ht2.block bs (World.block_lt_of_cell? _ (a := ⟨bs, 0, none⟩) h2) (by rw [z2]; omega))).trans h2
  have HJ2 := Lib.hid hj2
  have HT2 := Lib.hid ht2
  have c9 := hj2.cells.1
  clear hp hj2 ht2
  go_wp2_with fail
  refine hK.out _ _ ⟨k1, c9, k2⟩ (fun hHeld => ?_)
  clear hK K
  try simp only [Act.put, List.getElem_toArray, List.getElem_cons_zero, List.getElem_cons_succ, List.setIfInBounds_toArray, List.set_cons_zero, List.set_cons_succ]
  refine wpAnyH_take (i := 6) (v := ?vc6) rfl (by kernel_rfl) (by kernel_rfl) (by kernel_rfl) (fun _ _ _ h => h) (Or.inl ⟨by rfl, ?yc6⟩) (by assumption) ?rc6
  case yc6 =>
    intro w hSw
    (try dsimp only at hSw)
    go_simp
    first | done | with_reducible rfl
  try simp only [Act.put, List.getElem_toArray, List.getElem_cons_zero, List.getElem_cons_succ, List.setIfInBounds_toArray, List.set_cons_zero, List.set_cons_succ]
  refine wpAnyH_done (by kernel_rfl) ?_ _
  go_wp2_with fail
  go_ret
  exact ⟨rfl, (show JP B who w.drew T g gj _ _ q _ from ⟨who2, HJ2.out, HT2.out.wider (Nat.le_refl _) (by omega)⟩).first HB.out⟩
set_option maxRecDepth 100000 in
set_option maxHeartbeats 4000000 in
theorem cp2_any (bj bs bf : Nat) (s : Int) (A : Option Addr) (c : Nat) (f : Bs) (h : JS B who w T g gj d n q) (hT : 0 < T) (hn : n ≤ 1000000) (h1 : w.cell? ⟨bj, 0, none⟩ = some (.pointer (some ⟨gj, 0, none⟩))) (z1 : who bj = 0) (h2 : w.cell? ⟨bs, 0, none⟩ = some (.int .i64 s)) (z2 : who bs = 0) (h3 : w.cell? ⟨bf, 0, none⟩ = some (.slice A f.length c)) (z3 : who bf = 0) (hs : SlAt w A c f) (hl : f.length ≤ 1000000) (hA : ∀ q o, A = some ⟨q, o, none⟩ → who q = 0) :
    Calls Try.prog 47 #[.pointer (some ⟨bj, 0, none⟩), .pointer (some ⟨bs, 0, none⟩), .pointer (some ⟨bf, 0, none⟩)] w fun e w' => e = .returned (.int .i64 (appendE d s f : Nat)) ∧ JP B who w T g gj (appendD d s f) (n + f.length) q w' := by
  have hd := h.below (jn_drew w)
  obtain ⟨c0, _, _⟩ := h.cells
  have HC := Lib.hid (hd.ds.append hT hn s (hs.below (jn_drew w)).dk rfl hl (fun _ => hA))
  have HJ := Lib.hid hd
  have HB := Lib.hid (jn_drew w)
  clear h
  go_enter Try.func47, Try.ntmps47
  go_wp2_with fail
  refine wp_region_held_drew (S := (fun w' => w'.cell? ⟨bj, 0, none⟩ = some (.pointer (some ⟨gj, 0, none⟩)) ∧ w'.cell? ⟨gj, 0, none⟩ = some (.pointer (some ⟨g, 0, none⟩)) ∧ w'.cell? ⟨bs, 0, none⟩ = some (.int .i64 s) ∧ w'.cell? ⟨bf, 0, none⟩ = some (.slice A f.length c))) (by kernel_rfl) ⟨h1, c0, h2, h3⟩ (fun hHeld => ?_)
  refine wpAnyH_take (i := 0) (v := ?vr0) rfl (by kernel_rfl) (by kernel_rfl) (by kernel_rfl) (fun _ _ _ h => h) (Or.inl ⟨by rfl, ?yr0⟩) (by assumption) ?rr0
  case yr0 =>
    intro w hSw
    (try dsimp only at hSw)
    go_simp
    first | done | with_reducible rfl
  try simp only [Act.put, List.getElem_toArray, List.getElem_cons_zero, List.setIfInBounds_toArray, List.set_cons_zero, List.set_cons_succ]
  refine wpAnyH_take (i := 1) (v := ?vr1) rfl (by kernel_rfl) (by kernel_rfl) (by kernel_rfl) (fun _ _ _ h => h) (Or.inl ⟨by rfl, ?yr1⟩) (by assumption) ?rr1
  case yr1 =>
    intro w hSw
    (try dsimp only at hSw)
    go_simp
    first | done | with_reducible rfl
  try simp only [Act.put, List.getElem_toArray, List.getElem_cons_zero, List.getElem_cons_succ, List.setIfInBounds_toArray, List.set_cons_zero, List.set_cons_succ]
  refine wpAnyH_take (i := 2) (v := ?vr2) rfl (by kernel_rfl) (by kernel_rfl) (by kernel_rfl) (fun _ _ _ h => h) (Or.inl ⟨by rfl, ?yr2⟩) (by assumption) ?rr2
  case yr2 =>
    intro w hSw
    (try dsimp only at hSw)
    go_simp
    first | done | with_reducible rfl
  try simp only [Act.put, List.getElem_toArray, List.getElem_cons_zero, List.getElem_cons_succ, List.setIfInBounds_toArray, List.set_cons_zero, List.set_cons_succ]
  refine wpAnyH_take (i := 3) (v := ?vr3) rfl (by kernel_rfl) (by kernel_rfl) (by kernel_rfl) (fun _ _ _ h => h) (Or.inl ⟨by rfl, ?yr3⟩) (by assumption) ?rr3
  case yr3 =>
    intro w hSw
    (try dsimp only at hSw)
    go_simp
    first | done | with_reducible rfl
  try simp only [Act.put, List.getElem_toArray, List.getElem_cons_zero, List.getElem_cons_succ, List.setIfInBounds_toArray, List.set_cons_zero, List.set_cons_succ]
  refine wpAnyH_take (i := 4) (v := ?vr4) rfl (by kernel_rfl) (by kernel_rfl) (by kernel_rfl) (fun _ _ _ h => h) (Or.inl ⟨by rfl, ?yr4⟩) (by assumption) ?rr4
  case yr4 =>
    intro w hSw
    (try dsimp only at hSw)
    go_simp
    first | done | with_reducible rfl
  try simp only [Act.put, List.getElem_toArray, List.getElem_cons_zero, List.getElem_cons_succ, List.setIfInBounds_toArray, List.set_cons_zero, List.set_cons_succ]
  refine wpAnyH_take (i := 5) (v := ?vr5) rfl (by kernel_rfl) (by kernel_rfl) (by kernel_rfl) (fun _ _ _ h => h) (Or.inl ⟨by rfl, ?yr5⟩) (by assumption) ?rr5
  case yr5 =>
    intro w hSw
    (try dsimp only at hSw)
    go_simp
    first | done | with_reducible rfl
  try simp only [Act.put, List.getElem_toArray, List.getElem_cons_zero, List.getElem_cons_succ, List.setIfInBounds_toArray, List.set_cons_zero, List.set_cons_succ]
  refine wpAnyH_ready (rs := [6]) (by kernel_rfl) (by simp) ?_
  refine AllReadyH.cons rfl (fun K hK => ?_) AllReadyH.nil
  go_simp
  refine (HC.out).mono ?_
  rintro e w2 ⟨rfl, hp⟩
  obtain ⟨who2, hj2, ht2⟩ := HJ.out.disk hp
  have k1 := (World.cell?_of_block (a := ⟨bj, 0, none⟩) (ht2.block bj (World.block_lt_of_cell? _ (a := ⟨bj, 0, none⟩) h1) (by rw [z1]; omega))).trans h1
  have k2 := (World.cell?_of_block (a := ⟨bs, 0, none⟩) (ht2.block bs (World.block_lt_of_cell? _ (a := ⟨bs, 0, none⟩) h2) (by rw [z2]; omega))).trans h2
  have k3 := (World.cell?_of_block (a := ⟨bf, 0, none⟩) (ht2.block bf (World.block_lt_of_cell? _ (a := ⟨bf, 0, none⟩) h3) (by rw [z3]; omega))).trans h3
  have HJ2 := Lib.hid hj2
  have HT2 := Lib.hid ht2
  have c9 := hj2.cells.1
  clear hp hj2 ht2
  go_wp2_with fail
  refine hK.out _ _ ⟨k1, c9, k2, k3⟩ (fun hHeld => ?_)
  clear hK K
  try simp only [Act.put, List.getElem_toArray, List.getElem_cons_zero, List.getElem_cons_succ, List.setIfInBounds_toArray, List.set_cons_zero, List.set_cons_succ]
  refine wpAnyH_take (i := 7) (v := ?vr7) rfl (by kernel_rfl) (by kernel_rfl) (by kernel_rfl) (fun _ _ _ h => h) (Or.inl ⟨by rfl, ?yr7⟩) (by assumption) ?rr7
  case yr7 =>
    intro w hSw
    (try dsimp only at hSw)
    go_simp
    first | done | with_reducible rfl
  try simp only [Act.put, List.getElem_toArray, List.getElem_cons_zero, List.getElem_cons_succ, List.setIfInBounds_toArray, List.set_cons_zero, List.set_cons_succ]
  refine wpAnyH_done (by kernel_rfl) ?_ _
  go_wp2_with fail
  go_ret
  exact ⟨rfl, (show JP B who w.drew T g gj _ _ q _ from ⟨who2, HJ2.out, HT2.out.wider (Nat.le_refl _) (by omega)⟩).first HB.out⟩
end
end Go.Proofs.Ytojkifcclgecoaa
namespace Go.Proofs.Ytojkifcclgecoaa
open Go Go.RowKit Go.Shelf Go.Proofs Go.Proofs.Ytojkifcclgecoaa.Dk

theorem state_le (d : DDk) : d.state ≤ 10 := by unfold DDk.state stateN; split <;> omega
theorem may_le (d : DDk) (a : Int) : d.may a ≤ 10 := by unfold DDk.may; split; exact state_le d; omega
theorem cutE_le (d : DDk) (a n : Int) : cutE d a n ≤ 10 := by
  unfold cutE
  split
  · exact may_le d a
  · split
    · omega
    · exact state_le _
theorem syncE_le (d : DDk) (a : Int) : syncE d a ≤ 10 := by
  unfold syncE
  split
  · exact may_le d a
  · exact state_le _
theorem appendE_le (d : DDk) (a : Int) (b : Bs) : appendE d a b ≤ 10 := by
  unfold appendE
  split
  · exact may_le d a
  · split
    · omega
    · exact state_le _
theorem leaveE_le (d : DDk) (k : Int) : leaveE d k ≤ 10 := by
  unfold leaveE
  split
  · exact syncE_le _ _
  · exact cutE_le _ _ _

/-- leave, step by step. -/
def lvD (d : DDk) (k : Int) : Nat → DDk
  | 0 => d
  | 1 => cutD d 2 k
  | _ => syncD (cutD d 2 k) 2
def lvE (d : DDk) (k : Int) : Nat → Nat
  | 0 => cutE d 2 k
  | _ => syncE (cutD d 2 k) 2
def lvN (n : Nat) : Nat → Nat
  | 0 => n
  | _ => n + 1
theorem inO_two (E : Nat → Nat) : inO E 0 2 = if E 0 = 0 then (E 1, 2) else (E 0, 1) := by
  have h : inO E 0 2 = if E 0 = 0 then (((if E 1 = 0 then (0, 1) else (E 1, 1)) : Nat × Nat).1, ((if E 1 = 0 then (0, 1) else (E 1, 1)) : Nat × Nat).2 + 1) else (E 0, 1) := rfl
  rw [h]
  by_cases h1 : E 1 = 0
  · simp [h1]
  · simp [h1]
theorem lv_end (d : DDk) (k : Int) : (inO (lvE d k) 0 2).1 = leaveE d k ∧ lvD d k (inO (lvE d k) 0 2).2 = leaveD d k ∧ ∀ n, lvN n (inO (lvE d k) 0 2).2 = n + 1 := by
  rw [inO_two]
  unfold leaveE leaveD
  show (if cutE d 2 k = 0 then (syncE (cutD d 2 k) 2, 2) else (cutE d 2 k, 1)).1 = _ ∧ lvD d k (if cutE d 2 k = 0 then (syncE (cutD d 2 k) 2, 2) else (cutE d 2 k, 1)).2 = _ ∧ ∀ n, lvN n (if cutE d 2 k = 0 then (syncE (cutD d 2 k) 2, 2) else (cutE d 2 k, 1)).2 = n + 1
  by_cases h0 : cutE d 2 k = 0
  · rw [if_pos h0, if_pos h0, if_pos h0]; exact ⟨rfl, rfl, fun n => rfl⟩
  · rw [if_neg h0, if_neg h0, if_neg h0]; exact ⟨rfl, rfl, fun n => rfl⟩
theorem lvE_le (d : DDk) (k : Int) (i : Nat) : lvE d k i ≤ 100 := by
  unfold lvE
  split
  · have := cutE_le d 2 k; omega
  · have := syncE_le (cutD d 2 k) 2; omega

section
variable {B : Nat} {who : Nat → Nat} {w : World} {T g gj n q : Nat} {d : DDk}
/-- A block of nobody's stays. -/
theorem JP.block {w' : World} (h : JP B who w T g gj d n q w') (hT : 0 < T) {b : Nat} (hb : b < w.heap.size) (hz : who b = 0) : w'.heap[b]? = w.heap[b]? := by
  obtain ⟨who', _, h2⟩ := h
  exact h2.block b hb (by omega)
theorem JP.wh {w' : World} (h : JP B who w T g gj d n q w') : ∃ who', JS B who' w' T g gj d n q ∧ Turn T (T + 27) who w who' w' := h
set_option maxRecDepth 100000 in
set_option maxHeartbeats 4000000 in
theorem leave_any (k : Int) (h : JS B who w T g gj d n q) (hT : 0 < T) (hn : n + 1 ≤ 1000000) :
    Calls Try.prog 40 #[.pointer (some ⟨gj, 0, none⟩), .int .i64 k] w fun e w' => e = .returned (.int .i64 (leaveE d k : Nat)) ∧ JP B who w T g gj (leaveD d k) (n + 1) q w' := by
  have HJ := Lib.hid h
  have hmf : ∀ (fn : Fn) (first cap : Array Value) (w : World), (Instr.makeFunc fn first cap).run Try.prog w = .ok (.func fn first cap) w := fun _ _ _ _ => rfl
  obtain ⟨w1, hw1⟩ : ∃ w1, ((w.alloc (.cells #[.pointer (some ⟨gj, 0, none⟩)] 28)).alloc (.cells #[.int .i64 k] 3)).alloc (.cells #[.func (.func 68) #[] #[.pointer (some ⟨w.heap.size, 0, none⟩), .pointer (some ⟨w.heap.size + 1, 0, none⟩)], .func (.func 16) #[.pointer (some ⟨gj, 0, none⟩)] #[]] 39) = w1 := ⟨_, rfl⟩
  clear h
  go_enter Try.func40, Try.ntmps40
  go_wp2_with fail
  have hE1 := enters_of (P := Try.prog) Try.func68 (by kernel_rfl) rfl
  have hE2 := enters_of (P := Try.prog) Try.func16 (by kernel_rfl) rfl
  have h := HJ.out
  have hb1 : Below w.heap.size w w1 := by rw [← hw1]; exact (((Below.refl _ w).alloc (Nat.le_refl _) _).alloc (by simp) _).alloc (by simp; omega) _
  have hs1 : w1.heap.size = w.heap.size + 3 := by rw [← hw1]; simp
  have b0 : w1.heap[w.heap.size]? = some (.cells #[.pointer (some ⟨gj, 0, none⟩)] 28) := by rw [← hw1]; exact ((Boxed.new w _ _).alloc _).alloc _
  have b1 : w1.heap[w.heap.size + 1]? = some (.cells #[.int .i64 k] 3) := by
    rw [← hw1]; have := Boxed.new (w.alloc (.cells #[.pointer (some ⟨gj, 0, none⟩)] 28)) 3 (.int .i64 k); rw [World.size_alloc] at this; exact this.alloc _
  have b2 : w1.heap[w.heap.size + 1 + 1]? = some (.cells #[.func (.func 68) #[] #[.pointer (some ⟨w.heap.size, 0, none⟩), .pointer (some ⟨w.heap.size + 1, 0, none⟩)], .func (.func 16) #[.pointer (some ⟨gj, 0, none⟩)] #[]] 39) := by
    rw [← hw1]; have := heap_alloc_new ((w.alloc (.cells #[.pointer (some ⟨gj, 0, none⟩)] 28)).alloc (.cells #[.int .i64 k] 3)) (.cells #[.func (.func 68) #[] #[.pointer (some ⟨w.heap.size, 0, none⟩), .pointer (some ⟨w.heap.size + 1, 0, none⟩)], .func (.func 16) #[.pointer (some ⟨gj, 0, none⟩)] #[]] 39); simp only [World.size_alloc] at this; exact this
  have hJ1 := h.below hb1
  have z : ∀ b, w.heap.size ≤ b → who b = 0 := h.ds.fresh
  have HO := inOrder_any [⟨68, #[], #[.pointer (some ⟨w.heap.size, 0, none⟩), .pointer (some ⟨w.heap.size + 1, 0, none⟩)]⟩, ⟨16, #[.pointer (some ⟨gj, 0, none⟩)], #[]⟩] (w.heap.size + 1 + 1) 0 2 (lvE d k)
    (fun i W => JP B who w1 T g gj (lvD d k i) (lvN n i) q W) w1 ⟨who, hJ1, Turn.refl _ _ _ _⟩ (Nat.le_refl _) (by unfold maxLen; omega) (lvE_le d k)
    (fun x hx => by
      simp only [List.mem_cons, List.mem_nil_iff, or_false] at hx
      rcases hx with rfl | rfl
      · exact hE1
      · exact hE2)
    (fun i W hI j x hx => by
      have hblk := (hI.block hT (b := w.heap.size + 1 + 1) (by omega) (z _ (by omega))).trans b2
      match j, hx with
      | 0, hx => cases hx; exact cell_of_row _ _ 0 _ _ _ hblk
      | 1, hx => cases hx; exact cell_of_row _ _ 1 _ _ _ hblk)
    (fun i x W hx hI => by
      have hk0 := (hI.block hT (b := w.heap.size) (by omega) (z _ (by omega))).trans b0
      have hk1 := (hI.block hT (b := w.heap.size + 1) (by omega) (z _ (by omega))).trans b1
      obtain ⟨who', hJ, ht⟩ := hI
      have z0 := (ht.same w.heap.size (by omega)).trans (z _ (Nat.le_refl _))
      have z1 := (ht.same (w.heap.size + 1) (by omega)).trans (z _ (by omega))
      match i, hx with
      | 0, hx =>
        cases hx
        exact (leave1_any w.heap.size (w.heap.size + 1) k hJ hT (by show n ≤ _; omega) (cell_of_row _ _ 0 _ _ _ hk0) z0 (cell_of_row _ _ 0 _ _ _ hk1) z1).mono fun e W' ⟨he, hp⟩ => ⟨he, hp.more ht⟩
      | 1, hx =>
        cases hx
        exact (jsync_any hJ hT (by show n + 1 ≤ _; omega)).mono fun e W' ⟨he, hp⟩ => ⟨he, hp.more ht⟩)
  refine HO.mono ?_
  obtain ⟨f1, f2, f3⟩ := lv_end d k
  rintro e w2 ⟨rfl, hp⟩
  have hp : JP B who w1 T g gj (lvD d k (inO (lvE d k) 0 2).2) (lvN n (inO (lvE d k) 0 2).2) q w2 := hp
  show _
  have f1 : (inO (lvE d k) 0 [(⟨68, #[], #[.pointer (some ⟨w.heap.size, 0, none⟩), .pointer (some ⟨w.heap.size + 1, 0, none⟩)]⟩ : FnV), ⟨16, #[.pointer (some ⟨gj, 0, none⟩)], #[]⟩].length).1 = leaveE d k := f1
  rw [f1]
  rw [f2, f3] at hp
  have HP := Lib.hid (hp.first hb1)
  clear hp f1 f2 f3 HO hE1 hE2 h hb1 hs1 b0 b1 b2 hJ1 z hw1
  go_wp2_with fail
  go_ret
  exact ⟨rfl, HP.out⟩
end
end Go.Proofs.Ytojkifcclgecoaa
namespace Go.Proofs.Ytojkifcclgecoaa
open Go Go.RowKit Go.Shelf Go.Proofs Go.Proofs.Ytojkifcclgecoaa.Dk

section
variable {B : Nat} {who : Nat → Nat} {w : World} {T g gj n q : Nat} {d : DDk}
/-- Another number. -/
theorem JS.setq (h : JS B who w T g gj d n q) (q' : Nat) (hq : q' < 2 ^ 64) : JS B who (w.setCell ⟨gj, 1, none⟩ (.int .u64 (q' : Nat))) T g gj d n q' ∧ Turn (T + 26) (T + 27) who w who (w.setCell ⟨gj, 1, none⟩ (.int .u64 (q' : Nat))) := by
  have hsz : (w.setCell ⟨gj, 1, none⟩ (.int .u64 (q' : Nat))).heap.size = w.heap.size := by simp [World.setCell]
  have hoth : ∀ b, b ≠ gj → (w.setCell ⟨gj, 1, none⟩ (.int .u64 (q' : Nat))).heap[b]? = w.heap[b]? := fun b hb => Below.heap_setCell _ _ _ _ hb
  have ht : Turn (T + 26) (T + 27) who w who (w.setCell ⟨gj, 1, none⟩ (.int .u64 (q' : Nat))) := ⟨rfl, rfl, rfl, by rw [hsz]; exact Nat.le_refl _, fun b hb hn => hoth b (fun e => hn (by rw [e, h.wj]; omega)), fun _ _ => rfl⟩
  refine ⟨⟨h.ds.turn (U := T + 26) (ht.wider (Nat.le_refl _) (by omega)) (h.ds.fresh.size (by rw [hsz]; exact Nat.le_refl _)) (by omega) (.inr (Nat.le_refl _)), ?_, h.wj, hq⟩, ht⟩
  exact heap_setCell_same w gj 1 _ _ (.int .u64 (q' : Nat)) h.jb

set_option maxRecDepth 100000 in
set_option maxHeartbeats 4000000 in
theorem cp4_any (bn bj q' : Nat) (h : JS B who w T g gj d n q) (hT : 0 < T) (hn : n + 1 ≤ 1000000) (hq : q' < 2 ^ 64) (h1 : w.cell? ⟨bj, 0, none⟩ = some (.pointer (some ⟨gj, 0, none⟩))) (z1 : who bj = 0) (h2 : w.cell? ⟨bn, 0, none⟩ = some (.int .u64 (q' : Nat))) :
    Calls Try.prog 49 #[.pointer (some ⟨bn, 0, none⟩), .pointer (some ⟨bj, 0, none⟩)] w fun e w' => e = .returned (.int .i64 (leaveE d 0 : Nat)) ∧ JP B who w T g gj (leaveD d 0) (n + 1) q' w' := by
  obtain ⟨c0, c1, f1⟩ := h.cells
  obtain ⟨hj, ht⟩ := h.setq q' hq
  have k1 := (World.cell?_of_block (a := ⟨bj, 0, none⟩) (ht.block bj (World.block_lt_of_cell? _ (a := ⟨bj, 0, none⟩) h1) (by rw [z1]; omega))).trans h1
  have HL := Lib.hid (leave_any 0 hj hT hn)
  have HT := Lib.hid ht
  clear hj ht h
  go_enter Try.func49, Try.ntmps49
  go_wp2_with fail
  refine HL.out.mono ?_
  rintro e w2 ⟨rfl, hp⟩
  go_wp2_with fail
  go_ret
  exact ⟨rfl, hp.more (HT.out.wider (by omega) (by omega))⟩

theorem ckE_le (d : DDk) (q : Nat) (b : Bs) (i : Nat) : ckE d q b i ≤ 100 := by
  unfold ckE
  split
  · have := cutE_le d (slotI q) 0; omega
  · have := appendE_le (ck1 d q) (slotI q) (numbF (q + 1) b); omega
  · have := syncE_le (ck2 d q b) (slotI q); omega
  · have := leaveE_le (ck3 d q b) 0; omega
set_option maxRecDepth 100000 in
set_option maxHeartbeats 8000000 in
theorem checkpoint_any (h : JS B who w T g gj d n q) (hT : 0 < T) {A : Option Addr} {c : Nat} {b : Bs} (hs : SlAt w A c b) (hl : b.length ≤ 65528) (hn : n + 2 + (16 + b.length) ≤ 1000000) (hq : q + 1 < 2 ^ 64) :
    Calls Try.prog 17 #[.pointer (some ⟨gj, 0, none⟩), .slice A b.length c] w fun e w' => e = .returned (.int .i64 (cpE d q b : Nat)) ∧ JP B who w T g gj (cpD d q b) (n + 2 + (16 + b.length)) (cpQ d q b) w' := by
  have HJ := Lib.hid h
  have hmf : ∀ (fn : Fn) (first cap : Array Value) (w : World), (Instr.makeFunc fn first cap).run Try.prog w = .ok (.func fn first cap) w := fun _ _ _ _ => rfl
  have wq : IntKind.u64.wrap ((q : Int) + 1) = ((q + 1 : Nat) : Int) := by rw [IntWalk.u64_in _ (by omega)]; rfl
  obtain ⟨c0, c1, f1⟩ := h.cells
  obtain ⟨Q, hQ⟩ : ∃ Q, q + 1 = Q := ⟨_, rfl⟩
  rw [hQ] at wq
  have HE := Lib.hid (fun (W : World) (hW : Below w.heap.size w W) => jencode_any Q (by omega) b A c W (hs.below hW) hl)
  have k0 : ((w.alloc (.cells #[.pointer (some ⟨gj, 0, none⟩)] 28))).cell? ⟨gj, 1, none⟩ = some (.int .u64 (q : Nat)) := (((Below.refl _ w).alloc (Nat.le_refl _) _).cell (p := ⟨gj, 1, none⟩) h.lt).trans c1
  clear h c0 c1 f1 hs
  go_enter Try.func17, Try.ntmps17
  go_wp2_with fail
  obtain ⟨W0, hW0⟩ : ∃ W0, (w.alloc (.cells #[.pointer (some ⟨gj, 0, none⟩)] 28)).alloc (.cells #[.int .u64 (Q : Nat)] 45) = W0 := ⟨_, rfl⟩
  have hb0 : Below w.heap.size w W0 := by rw [← hW0]; exact ((Below.refl _ w).alloc (Nat.le_refl _) _).alloc (by simp) _
  have hs0 : W0.heap.size = w.heap.size + 2 := by rw [← hW0]; simp
  have b0 : W0.heap[w.heap.size]? = some (.cells #[.pointer (some ⟨gj, 0, none⟩)] 28) := by rw [← hW0]; exact (Boxed.new w _ _).alloc _
  have b1 : W0.heap[w.heap.size + 1]? = some (.cells #[.int .u64 (Q : Nat)] 45) := by
    rw [← hW0]; have := Boxed.new (w.alloc (.cells #[.pointer (some ⟨gj, 0, none⟩)] 28)) 45 (.int .u64 (Q : Nat)); rw [World.size_alloc] at this; exact this
  rw [hW0]
  clear k0
  refine (HE.out W0 hb0).mono ?_
  clear HE
  rintro e w2 ⟨v2, rfl, ho2, hb2⟩
  have hnew := ho2
  obtain ⟨A2, c2, rfl, hs2, _⟩ := ho2.sl
  obtain ⟨L, hL⟩ : ∃ L, (numbF Q b).length = L := ⟨_, rfl⟩
  have k1 : (w2.alloc (.cells #[.slice A2 L c2] 29)).cell? ⟨w.heap.size + 1, 0, none⟩ = some (.int .u64 (Q : Nat)) := cell_of_row _ _ 0 _ _ _ ((((hb2.alloc hb2.size (.cells #[.slice A2 L c2] 29)).block (w.heap.size + 1) (by omega))).trans b1)
  rw [hL]
  clear ho2
  go_wp2_with fail
  obtain ⟨w1, hw1⟩ : ∃ w1, ((w2.alloc (.cells #[.slice A2 L c2] 29)).alloc (.cells #[.int .i64 ((Q : Int) % 2)] 3)).alloc (.cells #[.func (.func 45) #[] #[.pointer (some ⟨w.heap.size, 0, none⟩), .pointer (some ⟨w2.heap.size + 1, 0, none⟩)], .func (.func 47) #[] #[.pointer (some ⟨w.heap.size, 0, none⟩), .pointer (some ⟨w2.heap.size + 1, 0, none⟩), .pointer (some ⟨w2.heap.size, 0, none⟩)], .func (.func 48) #[] #[.pointer (some ⟨w.heap.size, 0, none⟩), .pointer (some ⟨w2.heap.size + 1, 0, none⟩)], .func (.func 49) #[] #[.pointer (some ⟨w.heap.size + 1, 0, none⟩), .pointer (some ⟨w.heap.size, 0, none⟩)]] 39) = w1 := ⟨_, rfl⟩
  rw [hw1]
  have h := HJ.out
  have hz := hb2.size
  have hb3 : Below w2.heap.size w2 w1 := by rw [← hw1]; exact (((Below.refl _ w2).alloc (Nat.le_refl _) _).alloc (by simp) _).alloc (by simp; omega) _
  have hs1 : w1.heap.size = w2.heap.size + 3 := by rw [← hw1]; simp
  have hb1 : Below w.heap.size w w1 := (hb0.trans (hb2.mono (by omega))).trans (hb3.mono (by omega))
  have d0 : w1.heap[w.heap.size]? = some (.cells #[.pointer (some ⟨gj, 0, none⟩)] 28) := ((hb3.block _ (by omega)).trans (hb2.block _ (by omega))).trans b0
  have d1 : w1.heap[w.heap.size + 1]? = some (.cells #[.int .u64 (Q : Nat)] 45) := ((hb3.block _ (by omega)).trans (hb2.block _ (by omega))).trans b1
  have d2 : w1.heap[w2.heap.size]? = some (.cells #[.slice A2 L c2] 29) := by rw [← hw1]; exact ((Boxed.new w2 _ _).alloc _).alloc _
  have d3 : w1.heap[w2.heap.size + 1]? = some (.cells #[.int .i64 ((Q : Int) % 2)] 3) := by
    rw [← hw1]; have := Boxed.new (w2.alloc (.cells #[.slice A2 L c2] 29)) 3 (.int .i64 ((Q : Int) % 2)); rw [World.size_alloc] at this; exact this.alloc _
  have d4 : w1.heap[w2.heap.size + 1 + 1]? = some (.cells #[.func (.func 45) #[] #[.pointer (some ⟨w.heap.size, 0, none⟩), .pointer (some ⟨w2.heap.size + 1, 0, none⟩)], .func (.func 47) #[] #[.pointer (some ⟨w.heap.size, 0, none⟩), .pointer (some ⟨w2.heap.size + 1, 0, none⟩), .pointer (some ⟨w2.heap.size, 0, none⟩)], .func (.func 48) #[] #[.pointer (some ⟨w.heap.size, 0, none⟩), .pointer (some ⟨w2.heap.size + 1, 0, none⟩)], .func (.func 49) #[] #[.pointer (some ⟨w.heap.size + 1, 0, none⟩), .pointer (some ⟨w.heap.size, 0, none⟩)]] 39) := by
    rw [← hw1]; have := heap_alloc_new ((w2.alloc (.cells #[.slice A2 L c2] 29)).alloc (.cells #[.int .i64 ((Q : Int) % 2)] 3)) (.cells #[.func (.func 45) #[] #[.pointer (some ⟨w.heap.size, 0, none⟩), .pointer (some ⟨w2.heap.size + 1, 0, none⟩)], .func (.func 47) #[] #[.pointer (some ⟨w.heap.size, 0, none⟩), .pointer (some ⟨w2.heap.size + 1, 0, none⟩), .pointer (some ⟨w2.heap.size, 0, none⟩)], .func (.func 48) #[] #[.pointer (some ⟨w.heap.size, 0, none⟩), .pointer (some ⟨w2.heap.size + 1, 0, none⟩)], .func (.func 49) #[] #[.pointer (some ⟨w.heap.size + 1, 0, none⟩), .pointer (some ⟨w.heap.size, 0, none⟩)]] 39); simp only [World.size_alloc] at this; exact this
  have hE1 := enters_of (P := Try.prog) Try.func45 (by kernel_rfl) rfl
  have hE2 := enters_of (P := Try.prog) Try.func47 (by kernel_rfl) rfl
  have hE3 := enters_of (P := Try.prog) Try.func48 (by kernel_rfl) rfl
  have hE4 := enters_of (P := Try.prog) Try.func49 (by kernel_rfl) rfl
  have hJ1 := h.below hb1
  have z : ∀ b, w.heap.size ≤ b → who b = 0 := h.ds.fresh
  have hslot : slotI q = (Q : Int) % 2 := by unfold slotI; rw [hQ]; omega
  have hQ64 : Q < 2 ^ 64 := by omega
  have hnl := numbF_length Q b
  have HO := inOrder_any [⟨45, #[], #[.pointer (some ⟨w.heap.size, 0, none⟩), .pointer (some ⟨w2.heap.size + 1, 0, none⟩)]⟩, ⟨47, #[], #[.pointer (some ⟨w.heap.size, 0, none⟩), .pointer (some ⟨w2.heap.size + 1, 0, none⟩), .pointer (some ⟨w2.heap.size, 0, none⟩)]⟩, ⟨48, #[], #[.pointer (some ⟨w.heap.size, 0, none⟩), .pointer (some ⟨w2.heap.size + 1, 0, none⟩)]⟩, ⟨49, #[], #[.pointer (some ⟨w.heap.size + 1, 0, none⟩), .pointer (some ⟨w.heap.size, 0, none⟩)]⟩] (w2.heap.size + 1 + 1) 0 4 (ckE d q b)
    (fun i W => JP B who w1 T g gj (ckD d q b i) (ckN n (16 + b.length) i) (ckQ q i) W) w1 ⟨who, hJ1, Turn.refl _ _ _ _⟩ (Nat.le_refl _) (by unfold maxLen; omega) (ckE_le d q b)
    (fun x hx => by
      simp only [List.mem_cons, List.mem_nil_iff, or_false] at hx
      rcases hx with rfl | rfl | rfl | rfl
      · exact hE1
      · exact hE2
      · exact hE3
      · exact hE4)
    (fun i W hI j x hx => by
      have hblk := (hI.block hT (b := w2.heap.size + 1 + 1) (by omega) (z _ (by omega))).trans d4
      match j, hx with
      | 0, hx => cases hx; exact cell_of_row _ _ 0 _ _ _ hblk
      | 1, hx => cases hx; exact cell_of_row _ _ 1 _ _ _ hblk
      | 2, hx => cases hx; exact cell_of_row _ _ 2 _ _ _ hblk
      | 3, hx => cases hx; exact cell_of_row _ _ 3 _ _ _ hblk)
    (fun i x W hx hI => by
      have e0 := (hI.block hT (b := w.heap.size) (by omega) (z _ (by omega))).trans d0
      have e1 := (hI.block hT (b := w.heap.size + 1) (by omega) (z _ (by omega))).trans d1
      have e2 := (hI.block hT (b := w2.heap.size) (by omega) (z _ (by omega))).trans d2
      have e3 := (hI.block hT (b := w2.heap.size + 1) (by omega) (z _ (by omega))).trans d3
      obtain ⟨who', hJ, ht⟩ := hI
      have z0 := (ht.same w.heap.size (by omega)).trans (z _ (Nat.le_refl _))
      have z2 := (ht.same w2.heap.size (by omega)).trans (z _ (by omega))
      have z3 := (ht.same (w2.heap.size + 1) (by omega)).trans (z _ (by omega))
      have hnk := ckN_le n (16 + b.length) i
      have q0 := cell_of_row _ _ 0 _ _ _ e0
      have q1 := cell_of_row _ _ 0 _ _ _ e1
      have q2 := cell_of_row _ _ 0 _ _ _ e2
      have q3 := cell_of_row _ _ 0 _ _ _ e3
      match i, hx with
      | 0, hx =>
        cases hx
        have := cp1_any w.heap.size (w2.heap.size + 1) ((Q : Int) % 2) hJ hT (by omega) q0 z0 q3 z3
        rw [← hslot] at this
        exact this.mono fun e W' ⟨he, hp⟩ => ⟨he, hp.more ht⟩
      | 1, hx =>
        cases hx
        have hw2 : ∀ a, A2 = some a → who a.block = 0 := fun a e => z _ (by have := hnew.newA a e; omega)
        have hsW : SlAt W A2 c2 (numbF Q b) := (hs2.below hb3).keepIn fun k' hin hk' => ht.block k' hk' (by
          obtain ⟨a, e, rfl⟩ := hin
          rw [hw2 a e]; omega)
        rw [← hL] at q2
        have := cp2_any w.heap.size (w2.heap.size + 1) w2.heap.size ((Q : Int) % 2) A2 c2 (numbF Q b) hJ hT (by omega) q0 z0 q3 z3 q2 z2 hsW (by omega) (fun q' o' e => by
          subst e
          have h1 := hw2 _ rfl
          have hlt := inB_low hs2 (by omega) q' ⟨_, rfl, rfl⟩
          exact (ht.same q' (by omega)).trans h1)
        rw [← hslot, ← hQ, numbF_length] at this
        exact this.mono fun e W' ⟨he, hp⟩ => ⟨he, hp.more ht⟩
      | 2, hx =>
        cases hx
        have := cp3_any w.heap.size (w2.heap.size + 1) ((Q : Int) % 2) hJ hT (by omega) q0 z0 q3 z3
        rw [← hslot] at this
        exact this.mono fun e W' ⟨he, hp⟩ => ⟨he, hp.more ht⟩
      | 3, hx =>
        cases hx
        have := cp4_any (w.heap.size + 1) w.heap.size Q hJ hT (by show n + 1 + (16 + b.length) + 1 ≤ _; omega) hQ64 q0 z0 q1
        rw [← hQ] at this
        exact this.mono fun e W' ⟨he, hp⟩ => ⟨he, hp.more ht⟩)
  refine HO.mono ?_
  rintro e w4 ⟨rfl, hp⟩
  have hp : JP B who w1 T g gj (cpD d q b) (ckN n (16 + b.length) (inO (ckE d q b) 0 4).2) (cpQ d q b) w4 := hp
  have HP := Lib.hid ((show JP B who w1 T g gj (cpD d q b) (n + 2 + (16 + b.length)) (cpQ d q b) w4 from by
    obtain ⟨who', h1, h2⟩ := hp
    exact ⟨who', h1.mono (ckN_le _ _ _), h2⟩).first hb1)
  show _
  generalize hinO : inO (ckE d q b) 0 _ = io at *
  have hio : (io.1 : Int) = (cpE d q b : Nat) := by rw [← hinO]; rfl
  rw [hio]
  clear hp hinO hio HO hE1 hE2 hE3 hE4 h hb1 hs1 b0 b1 d0 d1 d2 d3 d4 hJ1 z hw1 hb3 hb2 hnew hs2 hb0 hs0 hW0 k1
  go_wp2_with fail
  go_ret
  exact ⟨rfl, HP.out⟩
end
end Go.Proofs.Ytojkifcclgecoaa
