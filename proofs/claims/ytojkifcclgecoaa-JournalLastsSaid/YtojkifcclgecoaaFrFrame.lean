/-
  What every law's row of layer 5 wants: arguments opened (a row that is nil has no room), how much they hold, numbers.
-/
import Derived.Test.YtojkifcclgecoaaFrKnown
import Derived.Test.YtojkifcclgecoaaOpenNil
import Derived.Test.YtojkifcclgecoaaRows
import Derived.WalkKit
import Derived.ProofKit
import Derived.OpenShut
import Derived.SizedLaws
import Derived.Deep.DeepHandedRow
namespace Go.Proofs.Ytojkifcclgecoaa
open Go Go.ChangeShapes Go.WideShapes Go.ChangeAt Go.RowKit Go.Shelf Go.Proofs Go.Deep

theorem own : ownKnob Try.prog.godebug = none := by kernel_rfl
theorem laid_out : laidOutB Try.prog = true := by kernel_rfl
theorem nat_u8 {n : Int} (h : (Lit.int .u8 n).wf = true) : ∃ b : UInt8, n = (b.toNat : Int) := by
  obtain ⟨h1, h2⟩ := bounds_u8 h
  refine ⟨UInt8.ofNat n.toNat, ?_⟩
  rw [UInt8.toNat_ofNat']
  omega
theorem nat_u16 {n : Int} (h : (Lit.int .u16 n).wf = true) : ∃ k : Nat, n = (k : Int) ∧ k < 65536 := by
  obtain ⟨h1, h2⟩ := bounds_u16 h
  exact ⟨n.toNat, by omega, by omega⟩
theorem nat_u64 {n : Int} (h : (Lit.int .u64 n).wf = true) : ∃ k : Nat, n = (k : Int) ∧ k < 2 ^ 64 := by
  obtain ⟨h1, h2⟩ := bounds_u64 h
  exact ⟨n.toNat, by omega, by omega⟩

theorem bulk_all {H : Type} (L : List (DataW H)) : Rows.uptoBulkAll L = (L.map Rows.uptoBulk).sum := by
  induction L with
  | nil => simp [Rows.uptoBulkAll]
  | cons d r ih => simp [Rows.uptoBulkAll, ih]
theorem bulk_pos {H : Type} (d : DataW H) : 1 ≤ Rows.uptoBulk d := by
  cases d with
  | lit l => cases l <;> simp [Rows.uptoBulk]
  | _ => simp [Rows.uptoBulk]
theorem sum_at {α : Type} (f : α → Nat) (g : Nat → Nat) (l : List α) (h : ∀ i x, l[i]? = some x → f x ≤ g i) : (l.map f).sum ≤ ((List.range l.length).map g).sum := by
  have key : ∀ k, k ≤ l.length → ((l.take k).map f).sum ≤ ((List.range k).map g).sum := by
    intro k
    induction k with
    | zero => intro _; simp
    | succ k ih =>
      intro hk
      obtain ⟨x, hx⟩ : ∃ x, l[k]? = some x := ⟨_, List.getElem?_eq_getElem (by omega)⟩
      have h1 := ih (by omega)
      have h2 := h k x hx
      rw [List.take_add_one, hx, List.map_append, List.sum_append, List.range_succ, List.map_append, List.sum_append]
      simp only [Option.toList, List.map_cons, List.map_nil, List.sum_cons, List.sum_nil]
      omega
  have := key l.length (Nat.le_refl _)
  rwa [List.take_length] at this
theorem bulk_ge {H : Type} (n : Nat) (D : Nat → DataW H) : n ≤ (((List.range n).map D).map Rows.uptoBulk).sum := by
  induction n with
  | zero => simp
  | succ n ih =>
    have := bulk_pos (D n)
    rw [List.range_succ, List.map_append, List.map_append, List.sum_append]
    simp
    simp at ih
    omega

section
variable {H : Type} {enc : TypeId × Value → H} {P : Program} {w : World} {base : Nat} {spare : Nat → Bool} {held : Bool}
theorem elem_nil {t u : TypeId} (ht : P.underlying t = some (.slice u)) (hu : P.underlying u = some (.int .u8)) (hc : P.cellsOf u = 1) {fuel : Nat} {v : Value} {x : DataW H × List MemPlace}
    (h : DataW.trod enc P w base spare held fuel t [v] = some x) (A : Option Addr) (n c : Nat) (hv : v = .slice A n c) : A = none → c = 0 := fun hA => by
  subst hA hv
  rcases open_ints ht hu hc h with ⟨hcs, _⟩ | ⟨a, len, cap, zs, hcs, _⟩
  · simp only [List.cons.injEq, and_true, Value.slice.injEq] at hcs
    exact hcs.2.2
  · simp at hcs
/-- [][]byte that is an argument; a row that is nil has no room. -/
theorem open_bytesRowN {t e u : TypeId} (ht : P.underlying t = some (.slice e)) (he : P.underlying e = some (.slice u)) (hu : P.underlying u = some (.int .u8)) (hce : P.cellsOf e = 1) (hc : P.cellsOf u = 1) (h1 : P.bytesOf u = 1) {r : Reach} {b0 : Nat} {v : Value} {d : DataW H} {p : List MemPlace}
    (hv : Value.okWide P w r b0 t v) (h : DataW.Trod enc P w base spare held t v d p) (hz : Sized P t d) : ∃ A c l, v = .slice A l.length c ∧ BRowAt w A c l ∧ ∀ x ∈ l, x.A = none → x.c = 0 := by
  obtain ⟨a, len, cap, rfl⟩ := okWide_slice ht hv
  obtain ⟨fuel, hf⟩ := h
  rcases open_slice1 ht hce hf with ⟨hcs, _⟩ | ⟨a, len, cap, m, n, V, D, Pl, hcs, _, hl, hm, hmm, hx, hi⟩
  · simp only [Value.cells, List.cons.injEq, and_true] at hcs
    exact ⟨none, 0, [], hcs, BRowAt.nil _ _ _ (Nat.zero_le _), fun x hx => by cases hx⟩
  · simp only [Value.cells, List.cons.injEq, and_true] at hcs
    rw [Prod.mk.injEq] at hx
    obtain ⟨rfl, _⟩ := hx
    have hle : len ≤ m := by rw [hmm]; split <;> omega
    have each : ∀ i, i < len → ∃ x : BX, w.cell? (a.add i) = some (.slice x.A x.b.length x.c) ∧ BytesAt w x.A x.b ∧ x.b.length ≤ x.c ∧ x.c ≤ maxLen ∧ x.b.length ≤ reachBytes ∧ (x.A = none → x.c = 0) := fun i hil => by
      obtain ⟨h2, h3⟩ := hi i (by omega)
      have hsz : Sized P e (D i) := hz.elem ht (List.mem_map.2 ⟨i, List.mem_range.2 hil, rfl⟩)
      obtain ⟨A, c, b, hcs, h4, h5, h6, h7⟩ := open_bytesB he hu hc h1 h3 hsz
      have h8 := elem_nil he hu hc h3 A b.length c (List.cons.inj hcs).1
      simp only [List.cons.injEq, and_true] at hcs
      rw [hcs] at h2
      exact ⟨⟨A, c, b⟩, h2, h4, h5, h6, h7, h8⟩
    obtain ⟨F, hF⟩ := choose_lt each
    have hll : ((List.range len).map F).length = len := by simp
    have hmem : ∀ x ∈ (List.range len).map F, ∃ i, i < len ∧ F i = x := fun x hx => by
      obtain ⟨i, hi', rfl⟩ := List.mem_map.1 hx
      exact ⟨i, List.mem_range.1 hi', rfl⟩
    refine ⟨some a, cap, (List.range len).map F, by rw [hll]; exact hcs, ⟨by rw [hll]; exact hl, hm, fun hn => ?_, fun x hx => ?_, fun x hx => ?_⟩, fun x hx => ?_⟩
    · rw [hll] at hn
      obtain ⟨g, o, s⟩ := a
      have h00 := (hF 0 hn).1
      obtain rfl : s = none := by simpa [Addr.add] using World.cell?_spot h00
      refine ⟨g, o, rfl, fun i x hx => ?_⟩
      have hil : i < len := by
        have := (List.getElem?_eq_some_iff.1 hx).1
        rwa [hll] at this
      rw [List.getElem?_map, List.getElem?_range hil] at hx
      obtain rfl : F i = x := by simpa using hx
      have := (hF i hil).1
      rw [Go.WideShapes.add_plain] at this
      exact this
    · obtain ⟨i, hil, rfl⟩ := hmem x hx
      exact (hF i hil).2.1
    · obtain ⟨i, hil, rfl⟩ := hmem x hx
      exact ⟨(hF i hil).2.2.1, (hF i hil).2.2.2.1, (hF i hil).2.2.2.2.1⟩
    · obtain ⟨i, hil, rfl⟩ := hmem x hx
      exact (hF i hil).2.2.2.2.2
theorem bytes_bulk1 {t u : TypeId} (ht : P.underlying t = some (.slice u)) {fuel : Nat} {A : Option Addr} {n c : Nat} {x : DataW H × List MemPlace}
    (h : DataW.trod enc P w base spare held fuel t [.slice A n c] = some x) : 1 + n ≤ Rows.uptoBulk x.1 := by
  rcases open_slice ht h with ⟨hcs, hx⟩ | ⟨a, len, cap, m, n', D, Pl, hcs, _, hl, hm, hmm, hx, hi⟩
  · simp only [List.cons.injEq, and_true, Value.slice.injEq] at hcs
    subst hx
    obtain ⟨_, rfl, _⟩ := hcs
    simp [Rows.uptoBulk]
  · simp only [List.cons.injEq, and_true, Value.slice.injEq] at hcs
    rw [hx]
    simp only [Rows.uptoBulk, bulk_all]
    have := bulk_ge len D
    omega
theorem bytes_bulk {t u : TypeId} (ht : P.underlying t = some (.slice u)) {A : Option Addr} {n c : Nat} {d : DataW H} {p : List MemPlace}
    (h : DataW.Trod enc P w base spare held t (.slice A n c) d p) : 1 + n ≤ Rows.uptoBulk d := by
  obtain ⟨fuel, hf⟩ := h
  exact bytes_bulk1 ht hf
theorem brows_bulk {t e f : TypeId} (ht : P.underlying t = some (.slice e)) (he : P.underlying e = some (.slice f)) (hce : P.cellsOf e = 1) {A : Option Addr} {c : Nat} {l : List BX} {d : DataW H} {p : List MemPlace}
    (h : DataW.Trod enc P w base spare held t (.slice A l.length c) d p) (hl : BRowAt w A c l) : longBN l ≤ Rows.uptoBulk d := by
  obtain ⟨fuel, hf⟩ := h
  rcases open_slice1 ht hce hf with ⟨hcs, hx⟩ | ⟨a, len, cap, m, n, V, D, Pl, hcs, _, _, hm, hmm, hx, hi⟩
  · simp only [Value.cells, List.cons.injEq, and_true, Value.slice.injEq] at hcs
    obtain rfl : l = [] := List.eq_nil_of_length_eq_zero (by omega)
    simp [longBN]
  · simp only [Value.cells, List.cons.injEq, and_true, Value.slice.injEq] at hcs
    obtain ⟨rfl, rfl, rfl⟩ := hcs
    rw [Prod.mk.injEq] at hx
    obtain ⟨rfl, _⟩ := hx
    have hle : l.length ≤ m := by rw [hmm]; split <;> omega
    simp only [Rows.uptoBulk, bulk_all, List.map_map]
    have := sum_at (fun x : BX => 1 + x.b.length) (Rows.uptoBulk ∘ D) l (fun i y hy => by
      have hil := (List.getElem?_eq_some_iff.1 hy).1
      obtain ⟨h2, h3⟩ := hi i (by omega)
      obtain ⟨g, o, hA, hrow⟩ := hl.row (by omega)
      simp only [Option.some.injEq] at hA
      subst hA
      have c0 := hrow i y hy
      rw [Go.WideShapes.add_plain] at h2
      have e0 := Option.some.inj (h2.symm.trans c0)
      rw [e0] at h3
      exact bytes_bulk1 he h3)
    unfold longBN
    omega
end
set_option maxRecDepth 100000 in
theorem open_sl {H : Type} {enc : TypeId × Value → H} {W : World} {base b0 : Nat} {spare : Nat → Bool} {held : Bool} {r : Reach} {v : Value} {d : DataW H} {p : List MemPlace} (hv : Value.okWide Try.prog W r b0 29 v)
    (h : DataW.Trod enc Try.prog W base spare held 29 v d p) (hz : Sized Try.prog 29 d) : ∃ A c b, v = .slice A b.length c ∧ SlAt W A c b ∧ b.length ≤ reachBytes := by
  obtain ⟨A, c, b, rfl, h1, h2, h3, h4⟩ := open_bytesV Try.underlying29 Try.underlying5 (by kernel_rfl) (by kernel_rfl) hv h hz
  exact ⟨A, c, b, rfl, ⟨h1, h2, h3, open_nilV Try.underlying29 Try.underlying5 (by kernel_rfl) h⟩, h4⟩
theorem long_reach {l : List BX} (hl : l.length ≤ 20) (h : ∀ x ∈ l, x.b.length ≤ reachBytes) : longBN l ≤ 9223372036854775807 := by
  have key : ∀ l : List BX, (∀ x ∈ l, x.b.length ≤ reachBytes) → longBN l ≤ l.length * (1 + reachBytes) := by
    intro l
    unfold longBN
    induction l with
    | nil => intro _; simp
    | cons y l ih =>
      intro h
      have h1 := ih (fun x hx => h x (by simp [hx]))
      have h2 := h y (by simp)
      rw [List.map_cons, List.sum_cons, List.length_cons, Nat.add_mul]
      omega
  have h1 := key l h
  have h2 : l.length * (1 + reachBytes) ≤ 20 * (1 + reachBytes) := Nat.mul_le_mul_right _ hl
  unfold reachBytes at h1 h2
  omega
end Go.Proofs.Ytojkifcclgecoaa
