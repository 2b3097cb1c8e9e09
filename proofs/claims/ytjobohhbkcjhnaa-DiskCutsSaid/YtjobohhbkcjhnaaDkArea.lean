/-
  What is done to bytes of an area: grow, cut; the steps that are pending.
-/
import Derived.Test.YtjobohhbkcjhnaaDkMem
namespace Go.Proofs.Ytjobohhbkcjhnaa
open Go Go.RowKit Go.Shelf Go.Proofs

theorem u_content : Try.prog.underlying 67 = some (.slice 5) := Try.underlying67
theorem u_bytes : Try.prog.underlying 32 = some (.slice 5) := Try.underlying32

def GrowW (base : Nat) (p : Addr) (v : Value) (l b : Bs) (w : World) (w' : World) : Prop :=
  ∃ v' w1, OB base w1 v' (l ++ b) ∧ w.grownBy w1 v.ownBlock ∧ (v'.ownBlock = v.ownBlock ∨ ∀ g, v'.ownBlock = some g → w.heap.size ≤ g) ∧ w' = w1.setCell p v'
set_option maxHeartbeats 4000000 in
theorem grow_any (base gp op : Nat) (v : Value) (l : Bs) (A : Option Addr) (c n : Nat) (b : Bs) (w : World) (hc : w.cell? ⟨gp, op, none⟩ = some v) (hf : w.frozen? ⟨gp, op, none⟩ = false) (hown : OB base w v l) (hb : SlAt w A c b) (hn : b.length = n) (hne : v.ownBlock ≠ some gp) (hlen : l.length + b.length ≤ 100000000) (hbase : base ≤ w.heap.size) :
    Calls Try.prog 55 #[.pointer (some ⟨gp, op, none⟩), .slice A n c] w (fun e w' => e = .returned (.tuple #[]) ∧ GrowW base ⟨gp, op, none⟩ v l b w w') := by
  subst hn
  obtain ⟨v', w1, hr, ho, hg, hk⟩ := run_appB w base 67 32 67 u_content u_bytes hown hb hlen hbase
  have hlt : gp < w.heap.size := World.block_lt_of_cell? w (a := ⟨gp, op, none⟩) hc
  have hblk := hg.block gp hlt (fun e => hne e.symm)
  have c1 : w1.cell? ⟨gp, op, none⟩ = some v := (World.cell?_of_block (a := ⟨gp, op, none⟩) hblk).trans hc
  have f1 : w1.frozen? ⟨gp, op, none⟩ = false := (World.frozen?_of_block (a := ⟨gp, op, none⟩) hblk).trans hf
  obtain ⟨A1, c1', hv1, _⟩ := row_slice ho
  obtain ⟨A0, c0, hv0, _⟩ := row_slice hown
  have HP := Lib.hid (show GrowW base ⟨gp, op, none⟩ v l b w (w1.setCell ⟨gp, op, none⟩ v') from ⟨v', w1, ho, hg, hk, rfl⟩)
  generalize (GrowW base ⟨gp, op, none⟩ v l b w) = Post at *
  subst hv1 hv0
  have HR := Lib.hid hr
  clear hr ho hg hk hown hb hblk hlt hne hlen hbase
  go_enter Try.func55, Try.ntmps55
  go_wp2_with (at_builtin; refine Lib.wpList_append_run _ rfl _ _ _ _ rfl _ _ rfl rfl _ _ HR.out ?_)
  rw [← List.length_append]
  go_returns
  exact ⟨rfl, HP.out⟩

set_option maxHeartbeats 4000000 in
theorem cut_any (gp op n k c : Nat) (A : Option Addr) (w : World) (hc : w.cell? ⟨gp, op, none⟩ = some (.slice A n c)) (hf : w.frozen? ⟨gp, op, none⟩ = false) (hk : k ≤ n) (hn : n ≤ c) (hcm : c ≤ maxLen) (hA : ∀ g o s, A = some ⟨g, o, s⟩ → s = none) (hA0 : A = none → c = 0) :
    Calls Try.prog 54 #[.pointer (some ⟨gp, op, none⟩), .int .i64 (k : Int)] w (fun e w' => e = .returned (.tuple #[]) ∧ w' = w.setCell ⟨gp, op, none⟩ (.slice A k c)) := by
  unfold maxLen at hcm
  have q1 : (k : Int) ≤ (c : Int) := by omega
  have q2 : (0 : Int) ≤ (k : Int) := by omega
  cases A with
  | none =>
    obtain rfl := hA0 rfl
    obtain rfl : k = 0 := by omega
    go_enter Try.func54, Try.ntmps54
    go_wp2_with fail
    go_returns
    exact ⟨rfl, rfl⟩
  | some a =>
    obtain ⟨g, o, s⟩ := a
    obtain rfl := hA g o s rfl
    clear hA hA0
    go_enter Try.func54, Try.ntmps54
    go_wp2_with fail
    go_returns
    exact ⟨rfl, rfl⟩

theorem gcount_any (A : Option Addr) (n c : Nat) (w : World) : Calls Try.prog 72 #[.slice A n c] w fun e w' => e = .returned (.int .i64 (n : Int)) ∧ w' = w := by
  go_enter Try.func72, Try.ntmps72
  go_wp2_with fail
  go_ret
  exact ⟨rfl, rfl⟩
theorem kcount_any (v : Value) (w : World) : Calls Try.prog 74 #[v] w fun e w' => e = .returned (.int .i64 1) ∧ w' = w := by
  go_enter Try.func74, Try.ntmps74
  go_wp2_with fail
  go_ret
  exact ⟨rfl, rfl⟩
theorem size_any (A : Option Addr) (n c : Nat) (w : World) : Calls Try.prog 36 #[.slice A n c] w fun e w' => e = .returned (.int .i64 (n : Int)) ∧ w' = w := by
  go_enter Try.func36, Try.ntmps36
  go_wp2_with fail
  go_ret
  exact ⟨rfl, rfl⟩
set_option maxHeartbeats 4000000 in
theorem gdo_any (base gp op : Nat) (v : Value) (l : Bs) (A : Option Addr) (c n k : Nat) (b : Bs) (w : World) (hc : w.cell? ⟨gp, op, none⟩ = some v) (hf : w.frozen? ⟨gp, op, none⟩ = false) (hown : OB base w v l) (hb : SlAt w A c b) (hn : b.length = n) (hk : k ≤ n) (hne : v.ownBlock ≠ some gp) (hlen : l.length + b.length ≤ 100000000) (hbase : base ≤ w.heap.size) :
    Calls Try.prog 73 #[.slice A n c, .pointer (some ⟨gp, op, none⟩), .int .i64 (k : Int)] w (fun e w' => e = .returned (.tuple #[]) ∧ GrowW base ⟨gp, op, none⟩ v l (b.take k) w w') := by
  have htl : (b.take k).length = k := by rw [List.length_take]; omega
  have HG := Lib.hid (grow_any base gp op v l A c k (b.take k) w hc hf hown (hb.take k) htl hne (by omega) hbase)
  have hcap := hb.cap
  have hcm := hb.c63
  have q1 : (k : Int) ≤ (c : Int) := by omega
  have q2 : (0 : Int) ≤ (k : Int) := by omega
  generalize (GrowW base ⟨gp, op, none⟩ v l (b.take k) w) = Post at *
  cases A with
  | none =>
    obtain ⟨rfl, rfl⟩ := hb.empty
    obtain rfl : n = 0 := by simpa using hn.symm
    obtain rfl : k = 0 := by omega
    clear hc hf hown hb hne hlen hbase htl
    go_enter Try.func73, Try.ntmps73
    go_wp2_with fail
    refine HG.out.mono ?_
    rintro e w' ⟨rfl, hp⟩
    have HP := Lib.hid hp; clear hp
    go_wp2_with fail
    go_returns
    exact ⟨rfl, HP.out⟩
  | some a =>
    obtain ⟨g, o, s⟩ := a
    have hs : 0 < b.length → s = none := fun h => by obtain ⟨g', o', e⟩ := hb.addr h; cases e; rfl
    clear hc hf hown hb hne hlen hbase htl
    go_enter Try.func73, Try.ntmps73
    go_wp2_with fail
    refine HG.out.mono ?_
    rintro e w' ⟨rfl, hp⟩
    have HP := Lib.hid hp; clear hp
    go_wp2_with fail
    go_returns
    exact ⟨rfl, HP.out⟩
theorem kdo_no (n : Int) (p : Value) (w : World) : Calls Try.prog 75 #[.int .i64 n, p, .int .i64 0] w fun e w' => e = .returned (.tuple #[]) ∧ w' = w := by
  go_enter Try.func75, Try.ntmps75
  go_wp2_with fail
  go_returns
  exact ⟨rfl, rfl⟩
set_option maxHeartbeats 4000000 in
theorem kdo_any (gp op n k c m : Nat) (A : Option Addr) (w : World) (hm : 0 < m) (hc : w.cell? ⟨gp, op, none⟩ = some (.slice A n c)) (hf : w.frozen? ⟨gp, op, none⟩ = false) (hk : k ≤ n) (hn : n ≤ c) (hcm : c ≤ maxLen) (hA : ∀ g o s, A = some ⟨g, o, s⟩ → s = none) (hA0 : A = none → c = 0) :
    Calls Try.prog 75 #[.int .i64 (k : Int), .pointer (some ⟨gp, op, none⟩), .int .i64 (m : Int)] w (fun e w' => e = .returned (.tuple #[]) ∧ w' = w.setCell ⟨gp, op, none⟩ (.slice A k c)) := by
  have HC := Lib.hid (cut_any gp op n k c A w hc hf hk hn hcm hA hA0)
  clear hc hf hk hn hcm hA hA0
  go_enter Try.func75, Try.ntmps75
  go_wp2_with fail
  refine HC.out.mono ?_
  rintro e w' ⟨rfl, rfl⟩
  go_wp2_with fail
  go_returns
  exact ⟨rfl, rfl⟩
end Go.Proofs.Ytjobohhbkcjhnaa
