/-
  What an area does with a step.
-/
import Derived.Test.YtojkifcclgecoaaDkMem
import Derived.Deep.RegionHeld3
import Derived.BigQuiet
namespace Go.Proofs.Ytojkifcclgecoaa.Dk
open Go Go.RowKit Go.Shelf Go.Proofs

def AnyA (_ : World) : Prop := True
def AnyB (_ : World) : Prop := True
theorem AreasAt.drew {base : Nat} {who : Nat → Nat} {w : World} {T ga cap : Nat} {L : List AX} (h : AreasAt base who w T ga cap L) : AreasAt base who w.drew T ga cap L := h.keep fun _ _ _ => ⟨rfl, rfl⟩
theorem Turn.drewn {lo hi : Nat} {who who' : Nat → Nat} {w w' : World} (h : Turn lo hi who w.drew who' w') : Turn lo hi who w who' w' := ⟨h.os, h.tape, h.output, h.size, h.block, h.same⟩
theorem AreasAt.free {base : Nat} {who : Nat → Nat} {w : World} {T ga cap : Nat} {L : List AX} (h : AreasAt base who w T ga cap L) (j : Nat) : w.frozen? ⟨ga, j, none⟩ = false := h.row.frozenAt j
theorem m_gcount (f : Nat) (A : Option Addr) (n c : Nat) (w : World) : (method (f + 100) 94 (.slice A n c) "quilter/disk.count").run Try.prog w = .ok (107, .slice A n c) w := by kernel_rfl
theorem m_gdo (f : Nat) (A : Option Addr) (n c : Nat) (w : World) : (method (f + 100) 94 (.slice A n c) "quilter/disk.do").run Try.prog w = .ok (108, .slice A n c) w := by kernel_rfl
theorem n_g (f : Nat) (A : Option Addr) (n c : Nat) (w : World) : (nilAhead (f + 100) 94 (.slice A n c) "quilter/disk.do").run Try.prog w = .ok (some false) w := by kernel_rfl
theorem m_kcount (f : Nat) (n : Int) (w : World) : (method (f + 100) 111 (.int .i64 n) "quilter/disk.count").run Try.prog w = .ok (109, .int .i64 n) w := by kernel_rfl
theorem m_kdo (f : Nat) (n : Int) (w : World) : (method (f + 100) 111 (.int .i64 n) "quilter/disk.do").run Try.prog w = .ok (110, .int .i64 n) w := by kernel_rfl
theorem n_k (f : Nat) (n : Int) (w : World) : (nilAhead (f + 100) 111 (.int .i64 n) "quilter/disk.do").run Try.prog w = .ok (some false) w := by kernel_rfl
theorem step_info : (Try.prog.info? 115).map (fun i => (i.zero, i.size, i.bytes)) = some (some .nilIface, 1, 16) := by kernel_rfl

/-- What a change of an area comes to. -/
def ChangeW (base : Nat) (who : Nat → Nat) (w : World) (T ga cap i : Nat) (L : List AX) (x : AX) (b : Bs) (p : List SX) (w' : World) : Prop :=
  ∃ who' cv pv, AreasAt base who' w' T ga cap (L.set i { x with cv := cv, pv := pv, c := b, p := p }) ∧ Turn (T + 1) (T + 2 + 3 * L.length) who w who' w' ∧ Fresh who' w'

/-- The step behind what is pending. -/
theorem pend_app {base : Nat} {who : Nat → Nat} {w : World} {T ga cap i : Nat} {L : List AX} {x : AX} (s : SX) (h : AreasAt base who w T ga cap L) (hx : L[i]? = some x) (hf : Fresh who w) (hs : s.at_ who w) (hl : x.p.length ≤ 100000000) (hb : base ≤ w.heap.size) :
    ∃ v' w1, (Builtin.append_ #[86, 86] 86 #[x.pv, .slice (some ⟨w.heap.size, 0, none⟩) 1 1]).run Try.prog (w.alloc (.cells #[s.v] 115)) = .ok v' w1 ∧ w1.cell? ⟨ga, 3 * i + 2, none⟩ = some x.pv ∧ w1.frozen? ⟨ga, 3 * i + 2, none⟩ = false ∧
      ∃ who', AreasAt base who' (w1.setCell ⟨ga, 3 * i + 2, none⟩ v') T ga cap (L.set i { x with pv := v', p := x.p ++ [s] }) ∧ Turn (T + 1) (T + 2 + 3 * L.length) who w who' (w1.setCell ⟨ga, 3 * i + 2, none⟩ v') ∧ Fresh who' (w1.setCell ⟨ga, 3 * i + 2, none⟩ v') := by
  have hb1 : Below w.heap.size w (w.alloc (.cells #[s.v] 115)) := (Below.refl _ _).alloc (Nat.le_refl _) _
  have hsz : (w.alloc (.cells #[s.v] 115)).heap.size = w.heap.size + 1 := by simp
  have h1 : AreasAt base who (w.alloc (.cells #[s.v] 115)) T ga cap L := h.keep fun b hl _ => ⟨hb1.block b hl, rfl⟩
  have hf1 : Fresh who (w.alloc (.cells #[s.v] 115)) := hf.size hb1.size
  have ha := h1.each i x hx
  have hs1 : s.at_ who (w.alloc (.cells #[s.v] 115)) := hs.keep fun b hl _ => ⟨hb1.block b hl, rfl⟩
  obtain ⟨v', w1, hr, ho, hg, hk⟩ := run_appX (P := Try.prog) _ base 86 86 86 115 step_info Try.underlying86 Try.underlying86 rfl (by decide) ha.p (some ⟨w.heap.size, 0, none⟩) 1 1 [s.v] rfl (fun e => by cases e) (fun a e j u hu => by
    cases e
    have hj : j < 1 := (List.getElem?_eq_some_iff.1 hu).1
    obtain rfl : j = 0 := by omega
    rw [Go.WideShapes.add_plain]
    exact (cell_of_row _ _ 0 _ _ _ (heap_alloc_new w _)).trans hu) (fun u hu => by
    obtain rfl : u = s.v := by simpa using hu
    cases s <;> rfl) (by unfold maxLen; omega) (by omega) (by omega)
  have hga := row_blk h1.row rfl
  have hblk := hg.block ga hga.2.1 (fun e => by have := ha.wp ga e.symm; have := h1.wg; omega)
  obtain ⟨who', h2, h3, h4⟩ := h1.putP (p := x.p ++ [s]) hx hf1 hg hk (by rw [List.length_append, List.map_append]; exact ho) (fun q hq => by
    rcases List.mem_append.1 hq with hq | hq
    · exact ha.steps q hq
    · obtain rfl : q = s := by simpa using hq
      exact hs1)
  refine ⟨v', w1, hr, (World.cell?_of_block (a := ⟨ga, 3 * i + 2, none⟩) hblk).trans (h1.cells hx).2.2, (World.frozen?_of_block (a := ⟨ga, 3 * i + 2, none⟩) hblk).trans (h1.free _), who', h2, ?_, h4⟩
  exact ((Turn.below hb1).trans h3)

set_option maxRecDepth 100000 in
set_option maxHeartbeats 4000000 in
theorem change_g (base : Nat) (who : Nat → Nat) (w : World) (T ga cap i : Nat) (L : List AX) (x : AX) (A : Option Addr) (c n : Nat) (b : Bs) (h : AreasAt base who w T ga cap L) (hx : L[i]? = some x) (hf : Fresh who w) (hs : (SX.grow A c b).at_ who w) (hn : b.length = n) (hc : x.c.length + b.length ≤ 100000000) (hl : x.p.length ≤ 100000000) (hb : base ≤ w.heap.size) :
    Calls Try.prog 57 #[.pointer (some ⟨ga, 3 * i, none⟩), .iface 94 (.slice A n c)] w fun e w' => e = .returned (.tuple #[]) ∧ ChangeW base who w T ga cap i L x (x.c ++ b) (x.p ++ [SX.grow A c b]) w' := by
  have hcells := h.cells hx
  have HDO := Lib.hid (gdo_any base ga (3 * i) x.cv x.c A c n n b w.drew hcells.1 (h.free _) (h.drew.each i x hx).c (hs.1.below ((Below.refl _ _).drew)) hn (Nat.le_refl _) (fun e => by have := (h.each i x hx).wc ga e; have := h.wg; omega) hc hb)
  have HH := Lib.hid h; clear h hcells
  have HS := Lib.hid hs; clear hs
  have m1 := m_gcount
  have m2 := m_gdo
  have m3 := n_g
  go_enter Try.func57, Try.ntmps57
  go_wp2_with fail
  refine wp_region_held_drew (S := (fun w' => AnyA w' ∧ AnyB w')) (by kernel_rfl) ⟨trivial, trivial⟩ (fun hHeld => ?_)
  refine wpAnyH_take (i := 0) (v := ?va0) rfl (by kernel_rfl) (by kernel_rfl) (by kernel_rfl) (fun _ _ _ h => h) (Or.inl ⟨by rfl, ?ya0⟩) (by assumption) ?ra0
  case ya0 =>
    intro w hSw
    (try dsimp only at hSw)
    go_simp
    first | done | with_reducible rfl
  try simp only [Act.put, List.getElem_toArray, List.getElem_cons_zero, List.setIfInBounds_toArray, List.set_cons_zero, List.set_cons_succ]
  refine wpAnyH_take (i := 1) (v := ?va1) rfl (by kernel_rfl) (by kernel_rfl) (by kernel_rfl) (fun _ _ _ h => h) (Or.inl ⟨by rfl, ?ya1⟩) (by assumption) ?ra1
  case ya1 =>
    intro w hSw
    (try dsimp only at hSw)
    go_simp
    first | done | with_reducible rfl
  try simp only [Act.put, List.getElem_toArray, List.getElem_cons_zero, List.getElem_cons_succ, List.setIfInBounds_toArray, List.set_cons_zero, List.set_cons_succ]
  refine wpAnyH_take (i := 2) (v := ?va2) rfl (by kernel_rfl) (by kernel_rfl) (by kernel_rfl) (fun _ _ _ h => h) (Or.inl ⟨by rfl, ?ya2⟩) (by assumption) ?ra2
  case ya2 =>
    intro w hSw
    (try dsimp only at hSw)
    go_simp
    first | done | with_reducible rfl
  try simp only [Act.put, List.getElem_toArray, List.getElem_cons_zero, List.getElem_cons_succ, List.setIfInBounds_toArray, List.set_cons_zero, List.set_cons_succ]
  refine wpAnyH_take (i := 3) (v := ?va3) rfl (by kernel_rfl) (by kernel_rfl) (by kernel_rfl) (fun _ _ _ h => h) (Or.inl ⟨by rfl, ?ya3⟩) (by assumption) ?ra3
  case ya3 =>
    intro w hSw
    (try dsimp only at hSw)
    go_simp
    first | done | with_reducible rfl
  try simp only [Act.put, List.getElem_toArray, List.getElem_cons_zero, List.getElem_cons_succ, List.setIfInBounds_toArray, List.set_cons_zero, List.set_cons_succ]
  refine wpAnyH_take (i := 4) (v := ?va4) rfl (by kernel_rfl) (by kernel_rfl) (by kernel_rfl) (fun _ _ _ h => h) (Or.inl ⟨by rfl, ?ya4⟩) (by assumption) ?ra4
  case ya4 =>
    intro w hSw
    (try dsimp only at hSw)
    go_simp
    first | done | with_reducible rfl
  try simp only [Act.put, List.getElem_toArray, List.getElem_cons_zero, List.getElem_cons_succ, List.setIfInBounds_toArray, List.set_cons_zero, List.set_cons_succ]
  refine wpAnyH_take (i := 6) (v := ?va6) rfl (by kernel_rfl) (by kernel_rfl) (by kernel_rfl) (fun _ _ _ h => h) (Or.inl ⟨by rfl, ?ya6⟩) (by assumption) ?ra6
  case ya6 =>
    intro w hSw
    (try dsimp only at hSw)
    go_simp
    first | done | with_reducible rfl
  try simp only [Act.put, List.getElem_toArray, List.getElem_cons_zero, List.getElem_cons_succ, List.setIfInBounds_toArray, List.set_cons_zero, List.set_cons_succ]
  refine wpAnyH_take (i := 7) (v := ?va7) rfl (by kernel_rfl) (by kernel_rfl) (by kernel_rfl) (fun _ _ _ h => h) (Or.inl ⟨by rfl, ?ya7⟩) (by assumption) ?ra7
  case ya7 =>
    intro w hSw
    (try dsimp only at hSw)
    go_simp
    first | done | with_reducible rfl
  try simp only [Act.put, List.getElem_toArray, List.getElem_cons_zero, List.getElem_cons_succ, List.setIfInBounds_toArray, List.set_cons_zero, List.set_cons_succ]
  refine wpAnyH_take (i := 8) (v := ?va8) rfl (by kernel_rfl) (by kernel_rfl) (by kernel_rfl) (fun _ _ _ h => h) (Or.inl ⟨by rfl, ?ya8⟩) (by assumption) ?ra8
  case ya8 =>
    intro w hSw
    (try dsimp only at hSw)
    go_simp
    first | done | with_reducible rfl
  try simp only [Act.put, List.getElem_toArray, List.getElem_cons_zero, List.getElem_cons_succ, List.setIfInBounds_toArray, List.set_cons_zero, List.set_cons_succ]
  refine wpAnyH_ready (rs := [5]) (by kernel_rfl) (by simp) ?_
  refine AllReadyH.cons rfl (fun K hK => ?_) AllReadyH.nil
  go_simp
  refine (gcount_any A n c _).mono ?_
  rintro e wq ⟨rfl, rfl⟩
  go_wp2_with fail
  refine hK.out _ _ hHeld (fun hHeld => ?_)
  clear hK K
  try simp only [Act.put, List.getElem_toArray, List.getElem_cons_zero, List.getElem_cons_succ, List.setIfInBounds_toArray, List.set_cons_zero, List.set_cons_succ]
  refine wpAnyH_ready (rs := [9]) (by kernel_rfl) (by simp) ?_
  refine AllReadyH.cons rfl (fun K hK => ?_) AllReadyH.nil
  go_simp
  refine HDO.out.mono ?_
  rintro e w2 ⟨rfl, hg⟩
  have HG := Lib.hid hg
  clear hg
  go_wp2_with fail
  refine hK.out _ _ hHeld (fun hHeld => ?_)
  clear hK K
  try simp only [Act.put, List.getElem_toArray, List.getElem_cons_zero, List.getElem_cons_succ, List.setIfInBounds_toArray, List.set_cons_zero, List.set_cons_succ]
  refine wpAnyH_done (by kernel_rfl) ?_ _
  obtain ⟨cv', w1, ho, hgr, hk, rfl⟩ := HG.out
  rw [List.take_of_length_le (by omega)] at ho
  obtain ⟨who1, h2, ht2, hf2⟩ := HH.out.drew.putC hx hf hgr hk ho
  obtain ⟨w2, hw2⟩ : ∃ w2, w1.setCell ⟨ga, 3 * i, none⟩ cv' = w2 := ⟨_, rfl⟩
  rw [hw2] at h2 ht2 hf2 ⊢
  have hi := (List.getElem?_eq_some_iff.1 hx).1
  have hx2 := List.getElem?_set_self (a := { x with cv := cv', c := x.c ++ b }) hi
  have hs2 : SX.at_ who1 w2 (SX.grow A c b) := SX.at_.keep (who := who) (w := w) HS.out fun q hq h0 => ⟨ht2.drewn.block q hq (by omega), ht2.drewn.same q hq⟩
  have hb2 : base ≤ w2.heap.size := Nat.le_trans hb ht2.size
  obtain ⟨pv', w3, hr, c3, f3, who3, h3, ht3, hf3⟩ := pend_app (SX.grow A c b) h2 hx2 hf2 hs2 hl hb2
  rw [List.set_set] at h3
  rw [List.length_set] at ht3
  obtain ⟨A3, k3, hv3, _⟩ := row_slice (h3.each i _ (List.getElem?_set_self hi)).p
  replace hv3 : pv' = .slice A3 (x.p ++ [(SX.grow A c b)]).length k3 := hv3
  subst hv3
  have hpl : (x.p ++ [(SX.grow A c b)]).length = x.p.length + 1 := by simp
  have c2 := (h2.cells hx2).2.2
  have HFIN := Lib.hid (show ChangeW base who w T ga cap i L x (x.c ++ b) (x.p ++ [(SX.grow A c b)]) (w3.setCell ⟨ga, 3 * i + 2, none⟩ (.slice A3 (x.p ++ [(SX.grow A c b)]).length k3)) from ⟨who3, cv', _, h3, ht2.drewn.trans ht3, hf3⟩)
  obtain ⟨Ap, cp, hpv, _⟩ := row_slice (h2.each i _ hx2).p
  replace hpv : x.pv = .slice Ap x.p.length cp := hpv
  replace c2 : w2.cell? ⟨ga, 3 * i + 2, none⟩ = some x.pv := c2
  replace c3 : w3.cell? ⟨ga, 3 * i + 2, none⟩ = some x.pv := c3
  rw [hpv] at hr c2 c3
  simp only [SX.v, hn] at hr
  have HR := Lib.hid hr
  clear hr h2 ht2 hf2 hx2 hs2 h3 ht3 hf3 hw2 ho hgr hk HDO HG hHeld m1 m2 m3 hx hf hl hb hpv
  go_wp2_with (at_builtin; refine Lib.wpList_append_run _ rfl _ _ _ _ rfl _ _ rfl rfl _ _ HR.out ?_)
  go_returns
  refine ⟨rfl, ?_⟩
  have hq := HFIN.out
  first | exact hq | (rw [hpl] at hq; exact hq)

set_option maxRecDepth 100000 in
set_option maxHeartbeats 4000000 in
theorem change_k (base : Nat) (who : Nat → Nat) (w : World) (T ga cap i : Nat) (L : List AX) (x : AX) (n : Nat) (h : AreasAt base who w T ga cap L) (hx : L[i]? = some x) (hf : Fresh who w) (hn : n ≤ x.c.length) (hc : x.c.length ≤ 100000000) (hl : x.p.length ≤ 100000000) (hb : base ≤ w.heap.size) :
    Calls Try.prog 57 #[.pointer (some ⟨ga, 3 * i, none⟩), .iface 111 (.int .i64 (n : Int))] w fun e w' => e = .returned (.tuple #[]) ∧ ChangeW base who w T ga cap i L x (x.c.take n) (x.p ++ [SX.cut n]) w' := by
  have hcells := h.cells hx
  have hco := (h.drew.each i x hx).c
  obtain ⟨Ac, cc, hcv, hA1, hA2, hA3, hA4⟩ := row_slice hco
  have hcc := hcells.1
  rw [hcv] at hcc hco
  have HDO := Lib.hid (kdo_any ga (3 * i) x.c.length n cc 1 Ac w.drew (by omega) hcc (h.free _) hn hA1 hA2 (fun g o s e => (hA4 g o s e).2.1) hA3)
  have HOW := Lib.hid (hco.cut hn)
  have HCV := Lib.hid hcv
  have HAN := Lib.hid hA3
  clear hcells hcc hco hcv hA1 hA2 hA3 hA4
  have HH := Lib.hid h; clear h
  have m1 := m_kcount
  have m2 := m_kdo
  have m3 := n_k
  go_enter Try.func57, Try.ntmps57
  go_wp2_with fail
  refine wp_region_held_drew (S := (fun w' => AnyA w' ∧ AnyB w')) (by kernel_rfl) ⟨trivial, trivial⟩ (fun hHeld => ?_)
  refine wpAnyH_take (i := 0) (v := ?va0) rfl (by kernel_rfl) (by kernel_rfl) (by kernel_rfl) (fun _ _ _ h => h) (Or.inl ⟨by rfl, ?ya0⟩) (by assumption) ?ra0
  case ya0 =>
    intro w hSw
    (try dsimp only at hSw)
    go_simp
    first | done | with_reducible rfl
  try simp only [Act.put, List.getElem_toArray, List.getElem_cons_zero, List.setIfInBounds_toArray, List.set_cons_zero, List.set_cons_succ]
  refine wpAnyH_take (i := 1) (v := ?va1) rfl (by kernel_rfl) (by kernel_rfl) (by kernel_rfl) (fun _ _ _ h => h) (Or.inl ⟨by rfl, ?ya1⟩) (by assumption) ?ra1
  case ya1 =>
    intro w hSw
    (try dsimp only at hSw)
    go_simp
    first | done | with_reducible rfl
  try simp only [Act.put, List.getElem_toArray, List.getElem_cons_zero, List.getElem_cons_succ, List.setIfInBounds_toArray, List.set_cons_zero, List.set_cons_succ]
  refine wpAnyH_take (i := 2) (v := ?va2) rfl (by kernel_rfl) (by kernel_rfl) (by kernel_rfl) (fun _ _ _ h => h) (Or.inl ⟨by rfl, ?ya2⟩) (by assumption) ?ra2
  case ya2 =>
    intro w hSw
    (try dsimp only at hSw)
    go_simp
    first | done | with_reducible rfl
  try simp only [Act.put, List.getElem_toArray, List.getElem_cons_zero, List.getElem_cons_succ, List.setIfInBounds_toArray, List.set_cons_zero, List.set_cons_succ]
  refine wpAnyH_take (i := 3) (v := ?va3) rfl (by kernel_rfl) (by kernel_rfl) (by kernel_rfl) (fun _ _ _ h => h) (Or.inl ⟨by rfl, ?ya3⟩) (by assumption) ?ra3
  case ya3 =>
    intro w hSw
    (try dsimp only at hSw)
    go_simp
    first | done | with_reducible rfl
  try simp only [Act.put, List.getElem_toArray, List.getElem_cons_zero, List.getElem_cons_succ, List.setIfInBounds_toArray, List.set_cons_zero, List.set_cons_succ]
  refine wpAnyH_take (i := 4) (v := ?va4) rfl (by kernel_rfl) (by kernel_rfl) (by kernel_rfl) (fun _ _ _ h => h) (Or.inl ⟨by rfl, ?ya4⟩) (by assumption) ?ra4
  case ya4 =>
    intro w hSw
    (try dsimp only at hSw)
    go_simp
    first | done | with_reducible rfl
  try simp only [Act.put, List.getElem_toArray, List.getElem_cons_zero, List.getElem_cons_succ, List.setIfInBounds_toArray, List.set_cons_zero, List.set_cons_succ]
  refine wpAnyH_take (i := 6) (v := ?va6) rfl (by kernel_rfl) (by kernel_rfl) (by kernel_rfl) (fun _ _ _ h => h) (Or.inl ⟨by rfl, ?ya6⟩) (by assumption) ?ra6
  case ya6 =>
    intro w hSw
    (try dsimp only at hSw)
    go_simp
    first | done | with_reducible rfl
  try simp only [Act.put, List.getElem_toArray, List.getElem_cons_zero, List.getElem_cons_succ, List.setIfInBounds_toArray, List.set_cons_zero, List.set_cons_succ]
  refine wpAnyH_take (i := 7) (v := ?va7) rfl (by kernel_rfl) (by kernel_rfl) (by kernel_rfl) (fun _ _ _ h => h) (Or.inl ⟨by rfl, ?ya7⟩) (by assumption) ?ra7
  case ya7 =>
    intro w hSw
    (try dsimp only at hSw)
    go_simp
    first | done | with_reducible rfl
  try simp only [Act.put, List.getElem_toArray, List.getElem_cons_zero, List.getElem_cons_succ, List.setIfInBounds_toArray, List.set_cons_zero, List.set_cons_succ]
  refine wpAnyH_take (i := 8) (v := ?va8) rfl (by kernel_rfl) (by kernel_rfl) (by kernel_rfl) (fun _ _ _ h => h) (Or.inl ⟨by rfl, ?ya8⟩) (by assumption) ?ra8
  case ya8 =>
    intro w hSw
    (try dsimp only at hSw)
    go_simp
    first | done | with_reducible rfl
  try simp only [Act.put, List.getElem_toArray, List.getElem_cons_zero, List.getElem_cons_succ, List.setIfInBounds_toArray, List.set_cons_zero, List.set_cons_succ]
  refine wpAnyH_ready (rs := [5]) (by kernel_rfl) (by simp) ?_
  refine AllReadyH.cons rfl (fun K hK => ?_) AllReadyH.nil
  go_simp
  refine (kcount_any (.int .i64 (n : Int)) _).mono ?_
  rintro e wq ⟨rfl, rfl⟩
  go_wp2_with fail
  refine hK.out _ _ hHeld (fun hHeld => ?_)
  clear hK K
  try simp only [Act.put, List.getElem_toArray, List.getElem_cons_zero, List.getElem_cons_succ, List.setIfInBounds_toArray, List.set_cons_zero, List.set_cons_succ]
  refine wpAnyH_ready (rs := [9]) (by kernel_rfl) (by simp) ?_
  refine AllReadyH.cons rfl (fun K hK => ?_) AllReadyH.nil
  go_simp
  refine HDO.out.mono ?_
  rintro e w2 ⟨rfl, hg⟩
  have HG := Lib.hid hg
  clear hg
  go_wp2_with fail
  refine hK.out _ _ hHeld (fun hHeld => ?_)
  clear hK K
  try simp only [Act.put, List.getElem_toArray, List.getElem_cons_zero, List.getElem_cons_succ, List.setIfInBounds_toArray, List.set_cons_zero, List.set_cons_succ]
  refine wpAnyH_done (by kernel_rfl) ?_ _
  obtain ⟨cv', hcv'⟩ : ∃ cv', Value.slice Ac n cc = cv' := ⟨_, rfl⟩
  have ho := HOW.out
  rw [hcv'] at ho
  have hw2 := HG.out.symm
  rw [hcv'] at hw2
  obtain ⟨who1, h2, ht2, hf2⟩ := HH.out.drew.putC hx hf ⟨rfl, rfl, rfl, Nat.le_refl _, fun _ _ _ => rfl⟩ (.inl (by rw [← hcv', HCV.out]; cases Ac <;> rfl)) ho
  rw [hw2] at h2 ht2 hf2
  have hi := (List.getElem?_eq_some_iff.1 hx).1
  have hx2 := List.getElem?_set_self (a := { x with cv := cv', c := x.c.take n }) hi
  have hs2 : SX.at_ who1 w2 (SX.cut n) := SX.at_.keep (who := who) (w := w) (show n ≤ 100000000 by omega) fun q hq h0 => ⟨ht2.drewn.block q hq (by omega), ht2.drewn.same q hq⟩
  have hb2 : base ≤ w2.heap.size := Nat.le_trans hb ht2.size
  obtain ⟨pv', w3, hr, c3, f3, who3, h3, ht3, hf3⟩ := pend_app (SX.cut n) h2 hx2 hf2 hs2 hl hb2
  rw [List.set_set] at h3
  rw [List.length_set] at ht3
  obtain ⟨A3, k3, hv3, _⟩ := row_slice (h3.each i _ (List.getElem?_set_self hi)).p
  replace hv3 : pv' = .slice A3 (x.p ++ [(SX.cut n)]).length k3 := hv3
  subst hv3
  have hpl : (x.p ++ [(SX.cut n)]).length = x.p.length + 1 := by simp
  have c2 := (h2.cells hx2).2.2
  have HFIN := Lib.hid (show ChangeW base who w T ga cap i L x (x.c.take n) (x.p ++ [(SX.cut n)]) (w3.setCell ⟨ga, 3 * i + 2, none⟩ (.slice A3 (x.p ++ [(SX.cut n)]).length k3)) from ⟨who3, cv', _, h3, ht2.drewn.trans ht3, hf3⟩)
  obtain ⟨Ap, cp, hpv, _⟩ := row_slice (h2.each i _ hx2).p
  replace hpv : x.pv = .slice Ap x.p.length cp := hpv
  replace c2 : w2.cell? ⟨ga, 3 * i + 2, none⟩ = some x.pv := c2
  replace c3 : w3.cell? ⟨ga, 3 * i + 2, none⟩ = some x.pv := c3
  rw [hpv] at hr c2 c3
  simp only [SX.v] at hr
  have HR := Lib.hid hr
  clear hr h2 ht2 hf2 hx2 hs2 h3 ht3 hf3 hw2 ho HDO HG hHeld hcv' HCV HAN HOW m1 m2 m3 hx hf hl hb hpv
  go_wp2_with (at_builtin; refine Lib.wpList_append_run _ rfl _ _ _ _ rfl _ _ rfl rfl _ _ HR.out ?_)
  go_returns
  refine ⟨rfl, ?_⟩
  have hq := HFIN.out
  first | exact hq | (rw [hpl] at hq; exact hq)

/-- change. -/
theorem change_any (base : Nat) (who : Nat → Nat) (w : World) (T ga cap i : Nat) (L : List AX) (x : AX) (s : SX) (h : AreasAt base who w T ga cap L) (hx : L[i]? = some x) (hf : Fresh who w) (hs : s.at_ who w) (hok : okS x.c s.sts) (hc : x.c.length + s.sts.length ≤ 100000000) (hl : x.p.length ≤ 100000000) (hb : base ≤ w.heap.size) :
    Calls Try.prog 57 #[.pointer (some ⟨ga, 3 * i, none⟩), s.v] w fun e w' => e = .returned (.tuple #[]) ∧ ChangeW base who w T ga cap i L x (runS x.c s.sts) (x.p ++ [s]) w' := by
  cases s with
  | grow A c b =>
    have := change_g base who w T ga cap i L x A c b.length b h hx hf hs rfl (by simpa [SX.sts] using hc) hl hb
    rw [show runS x.c (SX.grow A c b).sts = x.c ++ b from runS_bytes _ _]
    exact this
  | cut n => exact change_k base who w T ga cap i L x n h hx hf hok.1 (by omega) hl hb

end Go.Proofs.Ytojkifcclgecoaa.Dk
