/-
  The program's Deltas of layer 3 (history): what made a revision.
-/
import Derived.Test.YtlnpabpdgjganaaGreatDoorGPlain
import Derived.Test.YtlnpabpdgjganaaGreatDoorGCommit
namespace Go.Proofs.YtlnpabpdgjganaaGreatDoor
open Go Go.RowKit Go.Shelf Go.Proofs Go.ChangeMaps Go.Maps Go.WideMaps

theorem hrefusal_any (hb : Nat) (A : Option Addr) (n c : Nat) (r : Nat) (hr : r ≤ n) (w : World) (h1 : w.cell? ⟨hb, 1, none⟩ = some (.slice A n c)) :
    Calls Tryz.prog 37 #[.pointer (some ⟨hb, 0, none⟩), .int .i64 r] w fun e w' => e = .returned (.int .i64 0) ∧ w' = w := by
  have HH := Lib.hid (hhead_any hb A n c w h1)
  have q0 : ((r : Int) < 0) = False := eq_false (by omega)
  have q1 : ((n : Int) < (r : Int)) = False := eq_false (by omega)
  clear h1
  go_enter Tryz.func37, Tryz.ntmps37
  go_wp2_with fail
  refine HH.out.mono ?_
  rintro e w1 ⟨rfl, hw1⟩
  have hw1 := hw1.symm
  subst hw1
  go_wp2_with fail
  go_ret
  exact ⟨rfl, rfl⟩

/-- One change more in a row of the call's own. -/
theorem wpList_appendG {ops : Array Oper} {rest : List Oper} {o : Oper} {a : Act} {w : World} {Q : Exit → Act → World → Prop} (hgd : o.guard = none) (s y : Operand)
    (ho : o.op = .call { callee := .builtin .append, args := #[s, y], argTypes := #[39, 39] })
    (base : Nat) (v : Value) (l : List DX) (x : DX) (g c : Nat) (hs : a.eval s = v) (hown : DeltasAt base w v l) (hx : a.eval y = .slice (some ⟨g, 0, none⟩) 1 c)
    (hb : w.cell? ⟨g, 0, none⟩ = some (.int .i64 x.k) ∧ w.cell? ⟨g, 1, none⟩ = some (.string x.p) ∧ w.cell? ⟨g, 2, none⟩ = some (.slice x.A x.b.length x.c)) (hbo : BytesOwn w x.A x.b) (hl : l.length ≤ 1000000) (hbase : base ≤ w.heap.size)
    (h : ∀ v' w', DeltasAt base w' v' (l ++ [x]) → w.grownBy w' v.ownBlock → wpList Tryz.prog ops Q rest (a.put o.dst v') w') : wpList Tryz.prog ops Q (o :: rest) a w := by
  obtain ⟨i0, hi, hz0, hz1, hz2⟩ := info_parts delta_info
  refine wpList_append_own w hgd s y 39 ho base 63 i0 (.agg #[.int .i64 0, .string ⟨#[]⟩, .slice none 0 0]) 3 48 Tryz.underlying39 hi hz0 hz1 hz2 rfl (by decide) v l.length (dcells l) hs hown.own ⟨g, 0, none⟩ 1 c x.cs hx rfl ?_ ?_ (by unfold maxLen; omega) (by omega) hbase fun v' w' h1 h2 _ => h v' w' (hown.push hbo h1 h2) h2
  · intro j u hu
    rw [Go.WideShapes.add_plain, Nat.zero_add]
    match j, hu with
    | 0, hu => obtain rfl : Value.int .i64 x.k = u := by simpa [DX.cs] using hu
               exact hb.1
    | 1, hu => obtain rfl : Value.string x.p = u := by simpa [DX.cs] using hu
               exact hb.2.1
    | 2, hu => obtain rfl : Value.slice x.A x.b.length x.c = u := by simpa [DX.cs] using hu
               exact hb.2.2
    | j + 3, hu => simp [DX.cs] at hu
  · intro u hu
    simp only [DX.cs, List.mem_cons, List.mem_nil_iff, or_false] at hu
    rcases hu with rfl | rfl | rfl <;> rfl

theorem RevsF.rev {w : World} : ∀ {H : List (Nat × List DX)} {D : DataW Unit}, RevsF w H D → ∀ {i : Nat} {G : Nat} {L : List DX}, H[i]? = some (G, L) → ∃ D', RevAt w G L (H.length - 1 - i) D'
  | [], _, _, _, _, _, h => by simp at h
  | (G', L') :: H, _, ⟨D', h1, h2, _⟩, i, G, L, h => by
    cases i with
    | zero => simp only [List.getElem?_cons_zero, Option.some.injEq, Prod.mk.injEq] at h; obtain ⟨rfl, rfl⟩ := h; exact ⟨D', by simpa using h2⟩
    | succ i =>
      obtain ⟨D2, h3⟩ := h1.rev (i := i) (by simpa using h)
      refine ⟨D2, ?_⟩
      rw [List.length_cons, show H.length + 1 - 1 - (i + 1) = H.length - 1 - i by omega]
      exact h3
theorem rowsV_at {H : List (Nat × List DX)} {n r : Nat} (hn : H.length = n + 1) (h1 : 1 ≤ r) (hr : r ≤ n) {G : Nat} {L : List DX} (hG : H[n - r]? = some (G, L)) : (rowsV H)[r - 1]? = some (.slice (some ⟨G, 0, none⟩) L.length L.length) := by
  unfold rowsV
  rw [List.getElem?_map, List.getElem?_reverse (by rw [List.length_dropLast]; omega), List.length_dropLast, hn, List.getElem?_dropLast, if_pos (by omega), show n + 1 - 1 - 1 - (r - 1) = n - r by omega, hG]
  rfl
theorem HistAt.commit_row {base : Nat} {w : World} {hb n : Nat} {nm : List FX} {M : Bs → Nat} {nv cv : Value} {mb k : Nat} {D : DataW Unit} {H : List (Nat × List DX)} (h : HistAt base w hb n nm M nv cv mb k D H) {r : Nat} (h1 : 1 ≤ r) (hr : r ≤ n) {G : Nat} {L : List DX} (hG : H[n - r]? = some (G, L)) :
    ∃ g c, cv = .slice (some ⟨g, 0, none⟩) n c ∧ w.cell? ⟨g, r - 1, none⟩ = some (.slice (some ⟨G, 0, none⟩) L.length L.length) := by
  rcases h.commits.2 with ⟨_, h0⟩ | ⟨g, cap, cur, rfl, _, hg, _, _, hh⟩
  · omega
  · refine ⟨g, cap, rfl, (cell_of_row w g _ _ _ _ hg).trans ?_⟩
    have h3 := rowsV_at h.num h1 hr hG
    rw [← hh.2, List.getElem?_take, if_pos (by omega)] at h3
    rw [← Array.getElem?_toList]
    exact h3

theorem boxG (w : World) (x : DX) (t : TypeId) : (w.alloc (.cells #[.int .i64 x.k, .string x.p, .slice x.A x.b.length x.c] t)).cell? ⟨w.heap.size, 0, none⟩ = some (.int .i64 x.k) ∧ (w.alloc (.cells #[.int .i64 x.k, .string x.p, .slice x.A x.b.length x.c] t)).cell? ⟨w.heap.size, 1, none⟩ = some (.string x.p) ∧ (w.alloc (.cells #[.int .i64 x.k, .string x.p, .slice x.A x.b.length x.c] t)).cell? ⟨w.heap.size, 2, none⟩ = some (.slice x.A x.b.length x.c) := by
  have h := heap_alloc_new w (.cells #[.int .i64 x.k, .string x.p, .slice x.A x.b.length x.c] t)
  exact ⟨cell_of_row _ _ 0 _ _ _ h, cell_of_row _ _ 1 _ _ _ h, cell_of_row _ _ 2 _ _ _ h⟩

def DeltasPost (L : List DX) (w : World) (e : Ending) (w' : World) : Prop := ∃ v l, e = .returned (.tuple #[v, .int .i64 0]) ∧ DeltasAt w.heap.size w' v l ∧ l.map DX.dl = L.map DX.dl ∧ Below w.heap.size w w'

theorem RecAt.range {w : World} {g o : Nat} {k : Int} {p : ByteArray} {A : Option Addr} {n c : Nat} {rev : Int} {bv : Value} (h : RecAt w g o k p A n c rev bv) : w.rangeAt g o [.int .i64 k, .string p, .slice A n c, .int .i64 rev, bv] := fun j v hv => by
  match j, hv with
  | 0, hv => simp at hv; subst hv; exact h.kind
  | 1, hv => simp at hv; subst hv; exact h.path
  | 2, hv => simp at hv; subst hv; exact h.body
  | 3, hv => simp at hv; subst hv; exact h.rev
  | 4, hv => simp at hv; subst hv; exact h.before
  | j + 5, hv => simp at hv

set_option maxRecDepth 100000 in
set_option maxHeartbeats 8000000 in
theorem hdeltas_any {base : Nat} {w : World} {hb n : Nat} {nm : List FX} {M : Bs → Nat} {nv cv : Value} {mb k : Nat} {D : DataW Unit} {H : List (Nat × List DX)} (h : HistAt base w hb n nm M nv cv mb k D H) {r : Nat} (h1 : 1 ≤ r) (hr : r ≤ n) (hn : n ≤ 100000) {G : Nat} {L : List DX} (hG : H[n - r]? = some (G, L)) :
    Calls Tryz.prog 19 #[.pointer (some ⟨hb, 0, none⟩), .int .i64 r] w (DeltasPost L w) := by
  obtain ⟨gc, cc, rfl, hrow⟩ := h.commit_row h1 hr hG
  obtain ⟨D', hrev⟩ := h.full.rev hG
  have hsm := h.sm _ (List.mem_of_getElem? hG)
  have c1 := cell_of_row w hb 1 _ _ _ h.heap
  have HREF := Lib.hid (hrefusal_any hb (some ⟨gc, 0, none⟩) n cc r hr w c1)
  have q0 : ((r : Int) = 0) = False := eq_false (by omega)
  have q1 : (r : Int) - 1 = ((r - 1 : Nat) : Int) := by omega
  have q2 : (((r - 1 : Nat) : Int) < (n : Int)) := by omega
  have hfit : wrap64 ((r - 1 : Nat) : Int) = ((r - 1 : Nat) : Int) := IntWalk.wrap64_in _ (by omega)
  have q4 : ((r - 1 : Nat) : Int) < (n : Int) := by omega
  have q3 : ((r : Int) == 0) = false := by rw [beq_eq_false_iff_ne]; omega
  have HR := Lib.hid hrev
  have HSM := Lib.hid hsm
  have HN1 := Lib.hid h1
  clear h hG hrev hsm h1
  go_enter Tryz.func19, Tryz.ntmps19
  go_wp2_with fail
  refine HREF.out.mono ?_
  rintro e w1 ⟨rfl, hw1⟩
  have hw1 := hw1.symm
  subst hw1
  go_wp2_with fail
  go_loopw [7, 29] (fun v i wr => ∃ (k : Nat) (l : List DX), k ≤ L.length ∧ i = .int .i64 k ∧ DeltasAt w.heap.size wr v l ∧ l.map DX.dl = (L.take k).map DX.dl ∧ Below w.heap.size w wr) (fun _ i _ => L.length - (intOf i).toNat)
  case atStart => exact ⟨0, [], Nat.zero_le _, rfl, DeltasAt.nil _ _, rfl, Below.refl _ _⟩
  case round =>
    obtain ⟨k, l, hk, rfl, hd, he, hbr⟩ := hrel
    have hW := hbr.size
    by_cases h1 : k < L.length
    · obtain ⟨x, hx⟩ : ∃ x, L[k]? = some x := ⟨_, List.getElem?_eq_getElem h1⟩
      obtain ⟨A', c', hrec, hbo⟩ := (HR.out.keep (KeepR.below hbr)).recs k x hx
      obtain ⟨bv, hbv⟩ := ptrOf_ptr (atS (laidS D' G (pathsX L) k) x.p.data.toList)
      rw [hbv] at hrec
      have hrg := hrec.range
      have k1 : (k : Int) < (L.length : Int) := by omega
      have hlm : L.length ≤ 10000 := HSM.out.1
      have hll : l.length ≤ L.length := by have := congrArg List.length he; simp at this; omega
      have HX := Lib.hid hx
      have HE := Lib.hid he
      have HD := Lib.hid hd
      have HLL := Lib.hid hll
      have HBL := Lib.hid (HSM.out.2 x (List.mem_of_getElem? hx)).2
      have HBO := Lib.hid hbo
      have r0 := hrec.kind
      have r1 := hrec.path
      have r2 := hrec.body
      have r3 := hrec.rev
      have r4 := hrec.before
      have HHW := Lib.hid hW
      have HBR := Lib.hid hbr
      clear hrec hbv hx he hd hll hbo hW hbr hrg
      go_wp2_with fail
      obtain ⟨W1, hW1⟩ : ∃ W, wr.alloc (.cells #[.int .i64 x.k, .string x.p, .slice A' x.b.length c', .int .i64 ((H.length - 1 - (n - r) : Nat) : Int), .pointer bv] 85) = W := ⟨_, rfl⟩
      have hb1 := below_box wr (.cells #[.int .i64 x.k, .string x.p, .slice A' x.b.length c', .int .i64 ((H.length - 1 - (n - r) : Nat) : Int), .pointer bv] 85)
      rw [hW1] at hb1 ⊢
      refine (hown_any ⟨x.k, x.p, A', c', x.b⟩ W1 (HBO.out.below hb1).at_ HBL.out).mono ?_
      rintro e w2 ⟨A2, c2, rfl, hbo2, hb2⟩
      have hb12 := hb1.trans (hb2.mono hb1.size)
      have HB12 := Lib.hid hb12
      have HBO2 := Lib.hid hbo2
      have hW2 : w.heap.size ≤ w2.heap.size := Nat.le_trans HHW.out hb12.size
      have HW2 := Lib.hid hW2
      have hD2 := HD.out.below hb12
      have HD2 := Lib.hid hD2
      clear hb1 hb2 hb12 hbo2 hW2 hD2 hW1 r0 r1 r2 r3 r4
      go_wp2_with (at_builtin; refine wpList_appendG rfl _ _ rfl w.heap.size _ l ⟨x.k, x.p, A2, c2, x.b⟩ w2.heap.size 1 rfl (HD2.out.below (below_box w2 _)) rfl (boxG w2 ⟨x.k, x.p, A2, c2, x.b⟩ _) (HBO2.out.below (below_box w2 _)) (by have := HLL.out; have := HSM.out.1; omega) (Nat.le_trans HW2.out (below_box w2 _).size) ?_; intro v' w' hown' hgrow)
      go_roundw
      case rel => exact ⟨k + 1, _, by omega, by go_num, hown', by
        rw [List.map_append, HE.out, List.take_add_one, HX.out, List.map_append]
        rfl, ((HBR.out.trans (HB12.out.mono HBR.out.size)).trans ((below_box w2 _).mono HW2.out)).grown hgrow (Nat.le_trans HW2.out (below_box w2 _).size) fun j ej => (HD2.out.row ej).1⟩
      case measure => simp [intOf]; omega
    · obtain rfl : k = L.length := by omega
      rw [List.take_length] at he
      have HD := Lib.hid hd
      have HE := Lib.hid he
      clear hd he
      go_wp2_with fail
      go_ret2
      exact ⟨_, _, rfl, HD.out, HE.out, hbr⟩
end Go.Proofs.YtlnpabpdgjganaaGreatDoor
