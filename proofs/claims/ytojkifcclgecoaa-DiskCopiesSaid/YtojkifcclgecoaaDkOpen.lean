/-
  What every law's row of layer 6 wants: arguments opened (bytes, rows of bytes; a row that is nil has no room), numbers.
-/
import Derived.Test.YtojkifcclgecoaaDkUse
import Derived.Test.YtojkifcclgecoaaRows
import Derived.Deep.Slices
import Derived.Deep.Fields
import Derived.Deep.Strs
import Derived.ChangeSame
import Derived.Carry
import Derived.SizedLaws
import Derived.Lib.SmallJoins
import Derived.WalkKit
import Derived.ProofKit
import Derived.OpenShut
import Derived.Deep.DeepHandedRow
namespace Go.Proofs.Ytojkifcclgecoaa.Dk
open Go Go.ChangeShapes Go.WideShapes Go.ChangeAt Go.RowKit Go.Shelf Go.Proofs Go.Deep

theorem own : ownKnob Try.prog.godebug = none := by kernel_rfl
theorem laid_out : laidOutB Try.prog = true := by kernel_rfl
theorem nat_u8 {n : Int} (h : (Lit.int .u8 n).wf = true) : ∃ b : UInt8, n = (b.toNat : Int) := by
  obtain ⟨h1, h2⟩ := bounds_u8 h
  refine ⟨UInt8.ofNat n.toNat, ?_⟩
  rw [UInt8.toNat_ofNat']
  omega
theorem nat_u16 {n : Int} (h : (Lit.int .u16 n).wf = true) : ∃ k : Nat, n = (k : Int) ∧ k < 65536 := by
  obtain ⟨h1, h2⟩ := bounds_u16 h
  exact ⟨n.toNat, by omega, by omega⟩
/-- Bytes in memory: where they lie, their room, the bytes. -/
structure BX where
  A : Option Addr
  c : Nat
  b : Bs
instance : Inhabited BX := ⟨⟨none, 0, []⟩⟩
def BX.v (x : BX) : Value := .slice x.A x.b.length x.c
/-- The slice value .slice A n c holds the rows of bytes l. -/
structure BRowAt (w : World) (A : Option Addr) (c : Nat) (l : List BX) : Prop where
  cap : l.length ≤ c
  capm : c ≤ maxLen
  row : 0 < l.length → ∃ g o, A = some ⟨g, o, none⟩ ∧ ∀ i x, l[i]? = some x → w.cell? ⟨g, o + i, none⟩ = some (.slice x.A x.b.length x.c)
  bytes : ∀ x ∈ l, BytesAt w x.A x.b
  caps : ∀ x ∈ l, x.b.length ≤ x.c ∧ x.c ≤ maxLen ∧ x.b.length ≤ reachBytes
theorem BRowAt.below {w w' : World} {A : Option Addr} {c : Nat} {l : List BX} (h : BRowAt w A c l) (hb : Below w.heap.size w w') : BRowAt w' A c l := by
  refine ⟨h.cap, h.capm, fun hn => ?_, fun x hx => (h.bytes x hx).below hb, h.caps⟩
  obtain ⟨g, o, e, hr⟩ := h.row hn
  refine ⟨g, o, e, fun i x hx => ?_⟩
  have h1 := hr i x hx
  exact (hb.cell (p := ⟨g, o + i, none⟩) (World.block_lt_of_cell? w (a := ⟨g, o + i, none⟩) h1)).trans h1
theorem BRowAt.nil (w : World) (A : Option Addr) (c : Nat) (hc : c ≤ maxLen) : BRowAt w A c [] := ⟨Nat.zero_le _, hc, fun h => absurd h (by simp), fun x hx => (by cases hx), fun x hx => (by cases hx)⟩

section
variable {H : Type} {enc : TypeId × Value → H} {P : Program} {w : World} {base : Nat} {spare : Nat → Bool} {held : Bool}
/-- All that a datum weighs is within the form's reach. -/
def Sized (P : Program) (t : TypeId) (d : DataW H) : Prop := ∀ n ∈ d.weights P t, n ≤ reachBytes
theorem sized_of {ts : List TypeId} {ds : List (DataW H)} (h : (DataW.weightsEach P ts ds).all (· ≤ reachBytes) = true) {j : Nat} {t : TypeId} {d : DataW H} (ht : ts[j]? = some t) (hd : ds[j]? = some d) : Sized P t d := fun n hn => by
  have := List.all_eq_true.1 h _ (DataW.weights_mem_each ht hd n hn)
  simpa using this
theorem weightsAll_mem {e : TypeId} : ∀ {l : List (DataW H)} {d : DataW H}, d ∈ l → ∀ n ∈ d.weights P e, n ∈ DataW.weightsAll P e l
  | x :: l, d, hd, n, hn => by
    simp only [DataW.weightsAll, List.mem_append]
    rcases List.mem_cons.1 hd with rfl | hd
    · exact .inl hn
    · exact .inr (weightsAll_mem hd n hn)
theorem Sized.elem {t e : TypeId} {elems rest : List (DataW H)} (h : Sized P t (.slice elems rest)) (ht : P.underlying t = some (.slice e)) {d : DataW H} (hd : d ∈ elems) : Sized P e d := fun n hn => h n (by
  simp only [DataW.weights, ht, List.mem_cons, List.mem_append]
  exact .inr (.inl (weightsAll_mem hd n hn)))
theorem Sized.len {t e : TypeId} {elems rest : List (DataW H)} (h : Sized P t (.slice elems rest)) (ht : P.underlying t = some (.slice e)) : (elems.length + rest.length) * P.bytesOf e ≤ reachBytes := h _ (by
  simp only [DataW.weights, ht]
  exact List.mem_cons_self)
theorem Sized.field {t : TypeId} {fs : Array Field} {parts : List (DataW H)} (h : Sized P t (.agg parts)) (ht : P.underlying t = some (.struct fs)) {j : Nat} {f : Field} {d : DataW H} (hf : fs[j]? = some f) (hd : parts[j]? = some d) : Sized P f.type d := fun n hn => h n (by
  simp only [DataW.weights, ht]
  exact DataW.weights_mem_each (j := j) (by simp [hf]) hd n hn)
theorem Sized.str {t : TypeId} {b : List UInt8} (h : Sized P t (.lit (.string b) : DataW H)) : b.length ≤ reachBytes := h _ (by simp [DataW.weights])

def byteOf (z : Int) : UInt8 := UInt8.ofNat z.toNat
theorem byteOf_toNat {z : Int} (h : (Lit.int .u8 z).wf = true) : ((byteOf z).toNat : Int) = z := by
  have h := h
  simp [Lit.wf, IntKind.min, IntKind.max, IntKind.signed, IntKind.bits] at h
  have h1 : z.toNat < 256 := by omega
  show (((z.toNat % 256 : Nat)) : Int) = z
  omega

/-- []byte. -/
theorem open_bytesB {t u : TypeId} {fuel : Nat} {cs : List Value} {x : DataW H × List MemPlace} (ht : P.underlying t = some (.slice u)) (hu : P.underlying u = some (.int .u8)) (hc : P.cellsOf u = 1) (h1 : P.bytesOf u = 1)
    (h : DataW.trod enc P w base spare held fuel t cs = some x) (hz : Sized P t x.1) :
    ∃ A c b, cs = [.slice A b.length c] ∧ BytesAt w A b ∧ b.length ≤ c ∧ c ≤ maxLen ∧ b.length ≤ reachBytes := by
  rcases open_ints ht hu hc h with ⟨rfl, rfl⟩ | ⟨a, len, cap, zs, rfl, _, hl, hm, hlen, rfl, hcell, hwf⟩
  · exact ⟨none, 0, [], rfl, BytesAt.nil _ _, Nat.le_refl _, Nat.zero_le _, Nat.zero_le _⟩
  · have hle : len ≤ zs.length := by rw [hlen]; split <;> omega
    have hbl : ((zs.take len).map byteOf).length = len := by rw [List.length_map, List.length_take]; omega
    have hsz := hz.len ht
    rw [h1, Nat.mul_one] at hsz
    have hel : (lits (H := H) .u8 (zs.take len)).length = len := by unfold lits; rw [List.length_map, List.length_take]; omega
    rw [hel] at hsz
    have hnb : numsB ((zs.take len).map byteOf) = zs.take len := by
      unfold numsB
      rw [List.map_map]
      conv => rhs; rw [← List.map_id (zs.take len)]
      exact List.map_congr_left fun z hz => byteOf_toNat (hwf z (List.mem_of_mem_take hz))
    refine ⟨some a, cap, (zs.take len).map byteOf, by rw [hbl], ?_, by rw [hbl]; exact hl, hm, by rw [hbl]; omega⟩
    unfold BytesAt
    rw [hnb, hbl]
    refine Lib.BytesIn.of_cells fun i hi => ?_
    rw [hcell i (by omega), List.getD_eq_getElem?_getD, List.getD_eq_getElem?_getD, List.getElem?_take, if_pos hi]

theorem open_nilV {t u : TypeId} (ht : P.underlying t = some (.slice u)) (hu : P.underlying u = some (.int .u8)) (hc : P.cellsOf u = 1) {A : Option Addr} {n c : Nat} {d : DataW H} {p : List MemPlace}
    (h : DataW.Trod enc P w base spare held t (.slice A n c) d p) : A = none → c = 0 := fun hA => by
  subst hA
  obtain ⟨fuel, hf⟩ := h
  rcases open_ints ht hu hc hf with ⟨hcs, _⟩ | ⟨a, len, cap, zs, hcs, _⟩
  · simp only [Value.cells, List.cons.injEq, and_true, Value.slice.injEq] at hcs
    exact hcs.2.2
  · simp [Value.cells] at hcs
/-- []byte that is an argument. -/
theorem open_bytesV {t u : TypeId} (ht : P.underlying t = some (.slice u)) (hu : P.underlying u = some (.int .u8)) (hc : P.cellsOf u = 1) (h1 : P.bytesOf u = 1) {r : Reach} {b0 : Nat} {v : Value} {d : DataW H} {p : List MemPlace} (hv : Value.okWide P w r b0 t v)
    (h : DataW.Trod enc P w base spare held t v d p) (hz : Sized P t d) : ∃ A c b, v = .slice A b.length c ∧ BytesAt w A b ∧ b.length ≤ c ∧ c ≤ maxLen ∧ b.length ≤ reachBytes := by
  obtain ⟨a, len, cap, rfl⟩ := okWide_slice ht hv
  obtain ⟨fuel, hf⟩ := h
  obtain ⟨A, c, b, hcs, h2⟩ := open_bytesB ht hu hc h1 hf hz
  simp only [Value.cells, List.cons.injEq, and_true] at hcs
  exact ⟨A, c, b, hcs, h2⟩

theorem elem_nil {t u : TypeId} (ht : P.underlying t = some (.slice u)) (hu : P.underlying u = some (.int .u8)) (hc : P.cellsOf u = 1) {fuel : Nat} {v : Value} {x : DataW H × List MemPlace}
    (h : DataW.trod enc P w base spare held fuel t [v] = some x) (A : Option Addr) (n c : Nat) (hv : v = .slice A n c) : A = none → c = 0 := fun hA => by
  subst hA hv
  rcases open_ints ht hu hc h with ⟨hcs, _⟩ | ⟨a, len, cap, zs, hcs, _⟩
  · simp only [List.cons.injEq, and_true, Value.slice.injEq] at hcs
    exact hcs.2.2
  · simp at hcs
/-- [][]byte that is an argument; a row that is nil has no room. -/
theorem open_bytesRowN {t e u : TypeId} (ht : P.underlying t = some (.slice e)) (he : P.underlying e = some (.slice u)) (hu : P.underlying u = some (.int .u8)) (hce : P.cellsOf e = 1) (hc : P.cellsOf u = 1) (h1 : P.bytesOf u = 1) {r : Reach} {b0 : Nat} {v : Value} {d : DataW H} {p : List MemPlace}
    (hv : Value.okWide P w r b0 t v) (h : DataW.Trod enc P w base spare held t v d p) (hz : Sized P t d) : ∃ A c l, v = .slice A l.length c ∧ BRowAt w A c l ∧ ∀ x ∈ l, x.A = none → x.c = 0 := by
  obtain ⟨a, len, cap, rfl⟩ := okWide_slice ht hv
  obtain ⟨fuel, hf⟩ := h
  rcases open_slice1 ht hce hf with ⟨hcs, _⟩ | ⟨a, len, cap, m, n, V, D, Pl, hcs, _, hl, hm, hmm, hx, hi⟩
  · simp only [Value.cells, List.cons.injEq, and_true] at hcs
    exact ⟨none, 0, [], hcs, BRowAt.nil _ _ _ (Nat.zero_le _), fun x hx => by cases hx⟩
  · simp only [Value.cells, List.cons.injEq, and_true] at hcs
    rw [Prod.mk.injEq] at hx
    obtain ⟨rfl, _⟩ := hx
    have hle : len ≤ m := by rw [hmm]; split <;> omega
    have each : ∀ i, i < len → ∃ x : BX, w.cell? (a.add i) = some (.slice x.A x.b.length x.c) ∧ BytesAt w x.A x.b ∧ x.b.length ≤ x.c ∧ x.c ≤ maxLen ∧ x.b.length ≤ reachBytes ∧ (x.A = none → x.c = 0) := fun i hil => by
      obtain ⟨h2, h3⟩ := hi i (by omega)
      have hsz : Sized P e (D i) := hz.elem ht (List.mem_map.2 ⟨i, List.mem_range.2 hil, rfl⟩)
      obtain ⟨A, c, b, hcs, h4, h5, h6, h7⟩ := open_bytesB he hu hc h1 h3 hsz
      have h8 := elem_nil he hu hc h3 A b.length c (List.cons.inj hcs).1
      simp only [List.cons.injEq, and_true] at hcs
      rw [hcs] at h2
      exact ⟨⟨A, c, b⟩, h2, h4, h5, h6, h7, h8⟩
    obtain ⟨F, hF⟩ := choose_lt each
    have hll : ((List.range len).map F).length = len := by simp
    have hmem : ∀ x ∈ (List.range len).map F, ∃ i, i < len ∧ F i = x := fun x hx => by
      obtain ⟨i, hi', rfl⟩ := List.mem_map.1 hx
      exact ⟨i, List.mem_range.1 hi', rfl⟩
    refine ⟨some a, cap, (List.range len).map F, by rw [hll]; exact hcs, ⟨by rw [hll]; exact hl, hm, fun hn => ?_, fun x hx => ?_, fun x hx => ?_⟩, fun x hx => ?_⟩
    · rw [hll] at hn
      obtain ⟨g, o, s⟩ := a
      have h00 := (hF 0 hn).1
      obtain rfl : s = none := by simpa [Addr.add] using World.cell?_spot h00
      refine ⟨g, o, rfl, fun i x hx => ?_⟩
      have hil : i < len := by
        have := (List.getElem?_eq_some_iff.1 hx).1
        rwa [hll] at this
      rw [List.getElem?_map, List.getElem?_range hil] at hx
      obtain rfl : F i = x := by simpa using hx
      have := (hF i hil).1
      rw [Go.WideShapes.add_plain] at this
      exact this
    · obtain ⟨i, hil, rfl⟩ := hmem x hx
      exact (hF i hil).2.1
    · obtain ⟨i, hil, rfl⟩ := hmem x hx
      exact ⟨(hF i hil).2.2.1, (hF i hil).2.2.2.1, (hF i hil).2.2.2.2.1⟩
    · obtain ⟨i, hil, rfl⟩ := hmem x hx
      exact (hF i hil).2.2.2.2.2
end
theorem reach48 {n : Nat} (h : n ≤ reachBytes) : n ≤ 281474976710656 := by unfold reachBytes at h; omega
theorem row_len {H : Type} {enc : TypeId × Value → H} {P : Program} {w : World} {base : Nat} {spare : Nat → Bool} {held : Bool} {t e : TypeId} (ht : P.underlying t = some (.slice e)) (hb : 1 ≤ P.bytesOf e) {A : Option Addr} {n c : Nat} {d : DataW H} {p : List MemPlace}
    (h : DataW.Trod enc P w base spare held t (.slice A n c) d p) (hz : Sized P t d) : n ≤ reachBytes := by
  obtain ⟨fuel, hf⟩ := h
  rcases open_slice ht hf with ⟨hcs, hx⟩ | ⟨a, len, cap, m, n', D, Pl, hcs, _, hl, hm, hmm, hx, hi⟩
  · simp only [Value.cells, List.cons.injEq, and_true, Value.slice.injEq] at hcs
    obtain ⟨_, rfl, _⟩ := hcs
    exact Nat.zero_le _
  · simp only [Value.cells, List.cons.injEq, and_true, Value.slice.injEq] at hcs
    obtain ⟨_, rfl, _⟩ := hcs
    rw [Prod.mk.injEq] at hx
    obtain ⟨rfl, _⟩ := hx
    have h2 := hz.len ht
    rw [List.length_map, List.length_range] at h2
    have h3 := Nat.mul_le_mul_left (n + 0) hb
    have h4 := Nat.mul_le_mul_right (P.bytesOf e) (Nat.le_add_right n (List.map D ((List.range m).drop n)).length)
    first | omega | (refine Nat.le_trans ?_ h2; refine Nat.le_trans (by rw [Nat.mul_one]; exact Nat.le_refl _) (Nat.mul_le_mul (Nat.le_add_right _ _) hb))
set_option maxRecDepth 100000 in
theorem open_sl {H : Type} {enc : TypeId × Value → H} {W : World} {base b0 : Nat} {spare : Nat → Bool} {held : Bool} {r : Reach} {v : Value} {d : DataW H} {p : List MemPlace} (hv : Value.okWide Try.prog W r b0 29 v)
    (h : DataW.Trod enc Try.prog W base spare held 29 v d p) (hz : Sized Try.prog 29 d) : ∃ A c b, v = .slice A b.length c ∧ SlAt W A c b ∧ b.length ≤ reachBytes := by
  obtain ⟨A, c, b, rfl, h1, h2, h3, h4⟩ := open_bytesV Try.underlying29 Try.underlying5 (by kernel_rfl) (by kernel_rfl) hv h hz
  exact ⟨A, c, b, rfl, ⟨h1, h2, h3, open_nilV Try.underlying29 Try.underlying5 (by kernel_rfl) h⟩, h4⟩
end Go.Proofs.Ytojkifcclgecoaa.Dk
