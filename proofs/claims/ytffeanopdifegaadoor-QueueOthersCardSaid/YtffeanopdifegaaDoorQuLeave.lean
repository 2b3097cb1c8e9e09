/-
  slices.Delete of the first request; the line's leave. (gen_quleave.py)
-/
import Derived.Test.YtffeanopdifegaaDoorQuJoin
import Derived.Test.YtffeanopdifegaaDoorTGrow
import Derived.Deep.RegionLaw
namespace Go.Proofs.YtffeanopdifegaaDoor
open Go Go.RowKit Go.Shelf Go.Proofs Go.ChangeMaps Go.Maps Go.WideMaps
attribute [local go_sem] Oper.semAt_some

theorem zero_request (w : World) : (zeroValue 42).run Tryd.prog w = .ok (.agg #[.int .i64 0, .int .i64 0, .slice none 0 0]) w := by kernel_rfl
def zeroQ : List Value := (Builtin.zeroCells #[.int .i64 0, .int .i64 0, .slice none 0 0] 1).toList
theorem zeroQ_length : zeroQ.length = 3 := by unfold zeroQ; rw [Array.length_toList, size_zeroCells]; rfl
theorem zeroQ_one : ∀ v ∈ zeroQ, v.oneCell' = true := by
  intro v hv
  unfold zeroQ Builtin.zeroCells at hv
  rw [Array.toList_map, List.mem_map] at hv
  obtain ⟨i, _, rfl⟩ := hv
  have : i % (#[Value.int .i64 0, .int .i64 0, .slice none 0 0] : Array Value).size < 3 := Nat.mod_lt _ (by decide)
  generalize i % (#[Value.int .i64 0, .int .i64 0, .slice none 0 0] : Array Value).size = k at this
  match k, this with
  | 0, _ => rfl
  | 1, _ => rfl
  | 2, _ => rfl
/-- 'clear' of one request. -/
theorem run_clear_request (w : World) (ty : TypeId) (b o c : Nat) (hc : ∀ j, j < 3 → (w.cell? ⟨b, o + j, none⟩).isSome = true) (hf : ∀ j, j < 3 → w.frozen? ⟨b, o + j, none⟩ = false) :
    (Builtin.clear_ #[74] ty #[.slice (some ⟨b, o, none⟩) 1 c]).run Tryd.prog w = .ok (.tuple #[]) (w.setCells b o zeroQ) := by
  have hst := run_storeCells_cells (P := Tryd.prog) b o zeroQ 0 w (by rw [zeroQ_length]; simpa using hc) (by rw [zeroQ_length]; simpa using hf) zeroQ_one
  simp only [Nat.add_zero] at hst
  have hst' : (storeCells ⟨b, o, none⟩ (Builtin.zeroCells #[.int .i64 0, .int .i64 0, .slice none 0 0] 1).toList).run Tryd.prog w = .ok () (w.setCells b o zeroQ) := hst
  have hz := zero_request w
  clear hst
  simp [Builtin.clear_, run_underlying Tryd.underlying74, hz, Value.cells, hst']
theorem row_shrink {base e g m n cap : Nat} {w : World} {xs ys : List Value} (h : w.ownsRow base e 3 (.slice (some ⟨g, 0, none⟩) n cap) n (xs ++ ys)) (hx : xs.length = m * 3) (hm : m ≤ n) : w.ownsRow base e 3 (.slice (some ⟨g, 0, none⟩) m cap) m xs := by
  refine ⟨hx, .inr ?_⟩
  rcases h.2 with ⟨h', _⟩ | ⟨g', cap', cur, h', hb, hg, hc, hcm, hs, ht⟩
  · cases h'
  · cases h'
    refine ⟨g, cap, cur, rfl, hb, hg, by omega, hcm, hs, ?_⟩
    have := congrArg (List.take (m * 3)) ht
    rw [List.take_take, Nat.min_eq_left (by omega), ← hx, List.take_left] at this
    rw [← hx]; exact this
set_option maxRecDepth 100000 in
set_option maxHeartbeats 8000000 in
theorem qdelete_any {base : Nat} (x : QX) (T : List QX) (g cap : Nat) (w : World) (h : w.ownsRow base 42 3 (.slice (some ⟨g, 0, none⟩) (T.length + 1) cap) (T.length + 1) (qcells (x :: T))) (hT : T.length ≤ 100000) :
    Calls Tryd.prog 48 #[.slice (some ⟨g, 0, none⟩) (T.length + 1) cap, .int .i64 0, .int .i64 1] w fun e w' => e = .returned (.slice (some ⟨g, 0, none⟩) T.length cap) ∧ w'.ownsRow base 42 3 (.slice (some ⟨g, 0, none⟩) T.length cap) T.length (qcells T) ∧ QTurn (fun j => j = g) w w' := by
  obtain ⟨qi, hi, hz0, hz1, hz2⟩ := info_parts request_info
  obtain ⟨n, hn⟩ : ∃ n, T.length = n := ⟨_, rfl⟩
  obtain ⟨hcap, hcm⟩ : n + 1 ≤ cap ∧ cap ≤ maxLen := by
    rcases h.2 with ⟨h', _⟩ | ⟨g', cap', cur, h', _, _, hc, hcm, _⟩
    · cases h'
    · cases h'; rw [hn] at hc; exact ⟨hc, hcm⟩
  unfold maxLen at hcm
  have hcell : ∀ j u, (qcells (x :: T))[j]? = some u → w.cell? ⟨g, j, none⟩ = some u := fun j u hu => by
    have := World.ownsRow.cells h (g := g) rfl j u hu
    rwa [Go.WideShapes.add_plain, Nat.zero_add] at this
  have hfr : ∀ j, w.frozen? ⟨g, j, none⟩ = false := fun j => by
    obtain ⟨_, cur, hg⟩ := rowT_ge h (g := g) rfl
    exact frozen_of_row w g j _ _ hg
  have hql : (qcells (x :: T)).length = (n + 1) * 3 := by rw [qcells_length, List.length_cons, hn]
  have htl : (qcells T).length = n * 3 := by rw [qcells_length, hn]
  have hsome : ∀ j, j < (n + 1) * 3 → (w.cell? ⟨g, j, none⟩).isSome = true := fun j hj => by
    rw [hcell j _ (List.getElem?_eq_getElem (by rw [hql]; exact hj))]; rfl
  obtain ⟨A, hA, hsrc⟩ : ∃ A : Addr, (if cap = 1 then (some ⟨g, 0, none⟩ : Option Addr) else some ⟨g, 3, none⟩) = some A ∧ Hid (∀ t u, (qcells T)[t]? = some u → w.drew.cell? (A.add t) = some u) := by
    by_cases h1 : cap = 1
    · refine ⟨⟨g, 0, none⟩, by simp [h1], fun t u hu => ?_⟩
      have := (List.getElem?_eq_some_iff.1 hu).1
      rw [htl] at this
      omega
    · refine ⟨⟨g, 3, none⟩, by simp [h1], fun t u hu => ?_⟩
      rw [Go.WideShapes.add_plain]
      show w.cell? _ = _
      refine hcell (3 + t) u ?_
      rw [qcells_cons, show 3 + t = t + 1 + 1 + 1 from by omega]
      simpa using hu
  have s1 : Hid ((qcells T).length = n * 3) := htl
  have s2 : Hid (∀ u ∈ qcells T, u.oneCell' = true) := qcells_one T
  have s3 : Hid (∀ t, t < (qcells T).length → (w.drew.cell? ⟨g, 0 + 0 * 3 + t, none⟩).isSome = true ∧ w.drew.frozen? ⟨g, 0 + 0 * 3 + t, none⟩ = false) := by
    intro t ht
    rw [htl] at ht
    rw [show 0 + 0 * 3 + t = t by omega]
    exact ⟨hsome t (by omega), hfr t⟩
  obtain ⟨W1, hW1⟩ : ∃ W1, W1 = w.drew.setCells g (0 + 0 * 3) (qcells T) := ⟨_, rfl⟩
  have hrow1 : W1.ownsRow base 42 3 (.slice (some ⟨g, 0, none⟩) (n + 1) cap) (n + 1) ((qcells (x :: T)).take 0 ++ qcells T ++ (qcells (x :: T)).drop (0 + (qcells T).length)) := by
    rw [hW1]
    refine own_setCells (qcells T) 0 w.drew (qcells (x :: T)) ?_ (by rw [htl, hql]; omega)
    rw [← hn]; exact h
  have hcl : ∀ ty, (Builtin.clear_ #[74] ty #[.slice (some ⟨g, n * 3, none⟩) 1 (cap - n)]).run Tryd.prog W1 = .ok (.tuple #[]) (W1.setCells g (n * 3) zeroQ) := fun ty =>
    run_clear_request W1 ty g (n * 3) (cap - n) (fun j hj => by rw [hW1]; exact World.isSome_setCells g _ _ _ _ (hsome (n * 3 + j) (by omega))) (fun j hj => by rw [hW1, World.frozen?_setCells]; exact hfr _)
  have hrow2 : (W1.setCells g (n * 3) zeroQ).ownsRow base 42 3 (.slice (some ⟨g, 0, none⟩) n cap) n (qcells T) := by
    have hl1 : ((qcells (x :: T)).take 0 ++ qcells T ++ (qcells (x :: T)).drop (0 + (qcells T).length)).length = (n + 1) * 3 := by simp [htl, hql]; omega
    have := own_setCells zeroQ (n * 3) W1 _ hrow1 (by rw [hl1, zeroQ_length]; omega)
    have e1 : ((qcells (x :: T)).take 0 ++ qcells T ++ (qcells (x :: T)).drop (0 + (qcells T).length)).take (n * 3) = qcells T := by
      rw [List.take_zero, List.nil_append, ← htl, List.take_left]
    rw [e1, List.append_assoc] at this
    exact row_shrink this htl (by omega)
  have hturn : QTurn (fun j => j = g) w (W1.setCells g (n * 3) zeroQ) := by
    have a1 : w.drew.grownBy W1 (some g) := by rw [hW1]; exact grown_setCells _ _
    have a2 : W1.grownBy (W1.setCells g (n * 3) zeroQ) (some g) := grown_setCells _ _
    refine ⟨a2.os.trans a1.os, a2.tape.trans a1.tape, a2.output.trans a1.output, Nat.le_trans a1.size a2.size, fun j hj hne => ?_⟩
    exact (a2.block j (Nat.lt_of_lt_of_le hj a1.size) (fun e => hne (by simpa using e))).trans (a1.block j hj (fun e => hne (by simpa using e)))
  have HI := Lib.hid hi
  have HZ1 := Lib.hid hz1
  have HW1 := Lib.hid hW1
  have HROW2 := Lib.hid hrow2
  have HTURN := Lib.hid hturn
  have HN := Lib.hid hn
  rw [hn] at hT ⊢
  have c1 : 1 ≤ cap := by omega
  have c3 : (1 : Int) ≤ (n : Int) + 1 := by omega
  have c2 : n ≤ cap := by omega
  clear h hi hz0 hz1 hz2 hcell hfr hql htl hsome hW1 hrow1 hrow2 hturn hn
  go_enter Tryd.func48, Tryd.ntmps48
  go_wp2_with fail
  go_region_law (refine step_append_room rfl (.tmp 22) (.tmp 25) 74 rfl 42 qi 3 Tryd.underlying74 HI.out HZ1.out g 0 0 cap (by simp [Act.eval, Act.put]) A n (cap - 1) (qcells T) (by simp [Act.eval, Act.put]) s1.out hsrc.out s2.out (by omega) s3.out ?_; rw [← HW1.out])
  have hne : ¬ cap = n := by omega
  have hne2 : ¬ (cap : Int) = (n : Int) := by omega
  have e1 : n + 1 - n = 1 := by omega
  have c4 : (n : Int) ≤ (n : Int) + 1 := by omega
  have c5 : (n : Int) + 1 ≤ (cap : Int) := by omega
  clear s1 s2 s3 hsrc
  go_wp2_with fail
  go_ret
  exact ⟨rfl, HROW2.out, HTURN.out⟩
end Go.Proofs.YtffeanopdifegaaDoor
