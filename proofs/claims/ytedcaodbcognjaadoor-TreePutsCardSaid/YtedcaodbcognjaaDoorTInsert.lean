/-
  slices.Insert of one file into a row of files of the call's own.
-/
import Derived.Test.YtedcaodbcognjaaDoorTIns
import Derived.Test.YtedcaodbcognjaaDoorTDropAll
import Derived.Deep.RegionLaw
import Derived.Deep.QuietTactic
import Derived.BigQuiet
import Derived.Maps.AppendAt
namespace Go.Proofs.YtedcaodbcognjaaDoor
open Go Go.RowKit Go.Shelf Go.Proofs

def InsPost (base : Nat) (v : Value) (w : World) (l : List FX) (e : Ending) (w' : World) : Prop := ∃ v', e = .returned v' ∧ FilesOwn base w' v' l ∧ w.grownBy w' v.ownBlock
theorem FX.one {x : FX} : ∀ u ∈ x.cs, u.oneCell' = true := by
  intro u hu
  unfold FX.cs at hu
  simp only [List.mem_cons, List.mem_nil_iff, or_false] at hu
  rcases hu with rfl | rfl <;> rfl

theorem append_types (w : World) (ty : TypeId) (A B : Option Addr) (n c m d : Nat) : (Builtin.append_ #[23, 22] ty #[.slice A n c, .slice B m d]).run Tryd.prog w = (Builtin.append_ #[23, 23] ty #[.slice A n c, .slice B m d]).run Tryd.prog w := by
  simp [Builtin.append_, run_underlying Tryd.underlying23, run_underlying Tryd.underlying22]
set_option maxRecDepth 100000 in
set_option maxHeartbeats 2000000 in
theorem insert_end (base : Nat) (l : List FX) (A : Option Addr) (n c : Nat) (x : FX) (N : Nat) (w : World) (h : FilesOwn base w (.slice A n c) l) (hn : n = l.length) (hl : l.length ≤ 100000) (hbase : base ≤ w.heap.size)
    (hN : w.heap[N]? = some (Obj.cells #[.string x.p, .slice x.A x.b.length x.c] 41 (0, 0))) :
    Calls Tryd.prog 63 #[.slice A n c, .int .i64 (n : Int), .slice (some ⟨N, 0, none⟩) 1 1] w (InsPost base (.slice A n c) w (insX l n x)) := by
  obtain ⟨i0, hi, hz0, hz1, hz2⟩ := info_parts file_info
  have hcap : n ≤ c := by
    rcases h.form with ⟨h0, rfl⟩ | ⟨g, cap, cur, h0, _, _, h3, _⟩
    · cases h0; exact Nat.le_refl _
    · cases h0; exact h3
  have hins : insX l n x = l ++ [x] := by unfold insX; subst hn; simp
  have hfin : ∀ (W : World) (v' : Value), W.ownsRow base 41 2 v' (n + 1) (fcells l ++ x.cs) → FilesOwn base W v' (insX l n x) := fun W v' ho => by
    rw [hins]; unfold FilesOwn
    rw [List.length_append, fcells_append]
    subst hn; simpa [fcells, FX.cs] using ho
  have HFIN := Lib.hid hfin; clear hfin hins
  have h' : w.ownsRow base 41 2 (.slice A n c) n (fcells l) := by subst hn; exact h
  have HF := Lib.hid h'; clear h h'
  have HNN := Lib.hid hN; clear hN
  have HI := Lib.hid hi; clear hi
  have hl2 : n ≤ 100000 := by omega
  clear hn
  obtain ⟨v', w', hrun, h2, h3, _, _⟩ := run_append_own_at (P := Tryd.prog) w base 23 23 41 i0 (.agg #[.string ⟨#[]⟩, .slice none 0 0]) 2 40 Tryd.underlying23 HI.out hz0 hz1 hz2 rfl (by decide) (.slice A n c) n (fcells l) HF.out ⟨N, 0, none⟩ 1 1 x.cs rfl (fun j u hu => by
    rw [Go.WideShapes.add_plain, Nat.zero_add]
    exact (cell_of_row _ _ j _ _ _ HNN.out).trans (by simpa [FX.cs] using hu)) FX.one (by unfold maxLen; omega) (by omega) hbase
  have hrun2 := (append_types w 23 A (some ⟨N, 0, none⟩) n c 1 1).trans hrun
  have HR := Lib.hid hrun2; clear hrun2 hrun
  have H2 := Lib.hid h2; clear h2
  have H3 := Lib.hid h3; clear h3
  have hc1 : (c : Int) ≤ 9223372036854775807 := by
    rcases HF.out.2 with ⟨h0, _⟩ | ⟨g, cap, cur, h0, _, _, _, h4, _⟩
    · cases h0; omega
    · cases h0; unfold maxLen at h4; omega
  rcases Nat.lt_or_ge n c with hlt | hge
  · have hcn : ¬ c = n := by omega
    go_enter Tryd.func63, Tryd.ntmps63
    go_wp2_with (at_builtin; refine Lib.wpList_append_run _ rfl _ _ 23 22 rfl (.slice A n c) (.slice (some ⟨N, 0, none⟩) 1 1) rfl rfl v' w' HR.out ?_)
    all_goals go_ret
    all_goals exact ⟨v', rfl, HFIN.out _ _ H2.out, H3.out⟩
  · obtain rfl : c = n := by omega
    go_enter Tryd.func63, Tryd.ntmps63
    go_wp2_with (at_builtin; refine Lib.wpList_append_run _ rfl _ _ 23 22 rfl (.slice A c c) (.slice (some ⟨N, 0, none⟩) 1 1) rfl rfl v' w' HR.out ?_)
    all_goals go_ret
    all_goals exact ⟨v', rfl, HFIN.out _ _ H2.out, H3.out⟩
end Go.Proofs.YtedcaodbcognjaaDoor
