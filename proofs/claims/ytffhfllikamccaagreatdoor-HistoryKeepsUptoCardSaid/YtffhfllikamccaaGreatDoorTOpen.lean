/-
  Arguments opened: bytes, a file, a row of files; what is known of their sizes. No program is named here.
-/
import Derived.Test.YtffhfllikamccaaGreatDoorTMem
import Derived.Deep.Slices
import Derived.Deep.Fields
import Derived.Deep.Strs
import Derived.ChangeSame
import Derived.Carry
import Derived.SizedLaws
import Derived.Lib.SmallJoins
namespace Go.Proofs.YtffhfllikamccaaGreatDoor
open Go Go.RowKit Go.Shelf Go.Proofs Go.ChangeShapes Go.WideShapes Go.Deep

section
variable {H : Type} {enc : TypeId × Value → H} {P : Program} {w : World} {base : Nat} {spare : Nat → Bool} {held : Bool}

/-- All that a datum weighs is within the form's reach. -/
def Sized (P : Program) (t : TypeId) (d : DataW H) : Prop := ∀ n ∈ d.weights P t, n ≤ reachBytes
theorem sized_of {ts : List TypeId} {ds : List (DataW H)} (h : (DataW.weightsEach P ts ds).all (· ≤ reachBytes) = true) {j : Nat} {t : TypeId} {d : DataW H} (ht : ts[j]? = some t) (hd : ds[j]? = some d) : Sized P t d := fun n hn => by
  have := List.all_eq_true.1 h _ (DataW.weights_mem_each ht hd n hn)
  simpa using this
theorem weightsAll_mem {e : TypeId} : ∀ {l : List (DataW H)} {d : DataW H}, d ∈ l → ∀ n ∈ d.weights P e, n ∈ DataW.weightsAll P e l
  | x :: l, d, hd, n, hn => by
    simp only [DataW.weightsAll, List.mem_append]
    rcases List.mem_cons.1 hd with rfl | hd
    · exact .inl hn
    · exact .inr (weightsAll_mem hd n hn)
theorem Sized.elem {t e : TypeId} {elems rest : List (DataW H)} (h : Sized P t (.slice elems rest)) (ht : P.underlying t = some (.slice e)) {d : DataW H} (hd : d ∈ elems) : Sized P e d := fun n hn => h n (by
  simp only [DataW.weights, ht, List.mem_cons, List.mem_append]
  exact .inr (.inl (weightsAll_mem hd n hn)))
theorem Sized.len {t e : TypeId} {elems rest : List (DataW H)} (h : Sized P t (.slice elems rest)) (ht : P.underlying t = some (.slice e)) : (elems.length + rest.length) * P.bytesOf e ≤ reachBytes := h _ (by
  simp only [DataW.weights, ht]
  exact List.mem_cons_self)
theorem Sized.field {t : TypeId} {fs : Array Field} {parts : List (DataW H)} (h : Sized P t (.agg parts)) (ht : P.underlying t = some (.struct fs)) {j : Nat} {f : Field} {d : DataW H} (hf : fs[j]? = some f) (hd : parts[j]? = some d) : Sized P f.type d := fun n hn => h n (by
  simp only [DataW.weights, ht]
  exact DataW.weights_mem_each (j := j) (by simp [hf]) hd n hn)
theorem Sized.str {t : TypeId} {b : List UInt8} (h : Sized P t (.lit (.string b) : DataW H)) : b.length ≤ reachBytes := h _ (by simp [DataW.weights])

def byteOf (z : Int) : UInt8 := UInt8.ofNat z.toNat
theorem byteOf_toNat {z : Int} (h : (Lit.int .u8 z).wf = true) : ((byteOf z).toNat : Int) = z := by
  have h := h
  simp [Lit.wf, IntKind.min, IntKind.max, IntKind.signed, IntKind.bits] at h
  have h1 : z.toNat < 256 := by omega
  show (((z.toNat % 256 : Nat)) : Int) = z
  omega

/-- []byte. -/
theorem open_bytesB {t u : TypeId} {fuel : Nat} {cs : List Value} {x : DataW H × List MemPlace} (ht : P.underlying t = some (.slice u)) (hu : P.underlying u = some (.int .u8)) (hc : P.cellsOf u = 1) (h1 : P.bytesOf u = 1)
    (h : DataW.trod enc P w base spare held fuel t cs = some x) (hz : Sized P t x.1) :
    ∃ A c b, cs = [.slice A b.length c] ∧ BytesAt w A b ∧ b.length ≤ c ∧ c ≤ maxLen ∧ b.length ≤ reachBytes := by
  rcases open_ints ht hu hc h with ⟨rfl, rfl⟩ | ⟨a, len, cap, zs, rfl, _, hl, hm, hlen, rfl, hcell, hwf⟩
  · exact ⟨none, 0, [], rfl, BytesAt.nil _ _, Nat.le_refl _, Nat.zero_le _, Nat.zero_le _⟩
  · have hle : len ≤ zs.length := by rw [hlen]; split <;> omega
    have hbl : ((zs.take len).map byteOf).length = len := by rw [List.length_map, List.length_take]; omega
    have hsz := hz.len ht
    rw [h1, Nat.mul_one] at hsz
    have hel : (lits (H := H) .u8 (zs.take len)).length = len := by unfold lits; rw [List.length_map, List.length_take]; omega
    rw [hel] at hsz
    have hnb : numsB ((zs.take len).map byteOf) = zs.take len := by
      unfold numsB
      rw [List.map_map]
      conv => rhs; rw [← List.map_id (zs.take len)]
      exact List.map_congr_left fun z hz => byteOf_toNat (hwf z (List.mem_of_mem_take hz))
    refine ⟨some a, cap, (zs.take len).map byteOf, by rw [hbl], ?_, by rw [hbl]; exact hl, hm, by rw [hbl]; omega⟩
    unfold BytesAt
    rw [hnb, hbl]
    refine Lib.BytesIn.of_cells fun i hi => ?_
    rw [hcell i (by omega), List.getD_eq_getElem?_getD, List.getD_eq_getElem?_getD, List.getElem?_take, if_pos hi]

/-- The closed facts of a type of files: a path, bytes. -/
structure FileTy (P : Program) (t u : TypeId) (f0 f1 : Field) : Prop where
  st : P.underlying t = some (.struct #[f0, f1])
  cells : P.cellsOf t = 2
  one : oneCellFields P #[f0, f1] = true
  str : P.underlying f0.type = some .string
  byt : P.underlying f1.type = some (.slice u)
  u8 : P.underlying u = some (.int .u8)
  c1 : P.cellsOf u = 1
  b1 : P.bytesOf u = 1

/-- What a file that was handed in bears. -/
structure FileOk (w : World) (x : FX) : Prop where
  bytes : BytesAt w x.A x.b
  cap : x.b.length ≤ x.c
  capm : x.c ≤ maxLen
  p : x.p.size ≤ reachBytes
  b : x.b.length ≤ reachBytes

theorem open_fileB {t u : TypeId} {f0 f1 : Field} (T : FileTy P t u f0 f1) {fuel : Nat} {cs : List Value} {x : DataW H × List MemPlace}
    (h : DataW.trod enc P w base spare held fuel t cs = some x) (hz : Sized P t x.1) : ∃ f : FX, cs = f.cs ∧ FileOk w f := by
  obtain ⟨y0, y1, n, rfl, hlen, h0, h1⟩ := trod_struct2 T.st h
  obtain ⟨o0, k0⟩ := hone_of T.one 0 f0 rfl
  obtain ⟨o1, k1⟩ := hone_of T.one 1 f1 rfl
  rw [T.cells] at hlen
  match cs, hlen with
  | [c0, c1], _ =>
    have h0 : DataW.trod enc P w base spare held n f0.type [c0] = some y0 := by simpa [o0, k0] using h0
    have h1 : DataW.trod enc P w base spare held n f1.type [c1] = some y1 := by simpa [o1, k1] using h1
    obtain ⟨s, hs, rfl, _⟩ := DataW.trod_string T.str h0
    have z1 : Sized P f1.type y1.1 := hz.field T.st (j := 1) (f := f1) rfl rfl
    have z0 : Sized P f0.type (.lit (.string s.data.toList) : DataW H) := hz.field T.st (j := 0) (f := f0) rfl rfl
    have z0 := z0.str
    rw [Array.length_toList] at z0
    obtain ⟨A, c, b, hb, h2, h3, h4, h5⟩ := open_bytesB T.byt T.u8 T.c1 T.b1 h1 z1
    simp only [List.cons.injEq, and_true] at hs hb
    subst hs; subst hb
    exact ⟨⟨s, A, c, b⟩, rfl, h2, h3, h4, z0, h5⟩

theorem open_filesB {t e u : TypeId} {f0 f1 : Field} (ht : P.underlying t = some (.slice e)) (T : FileTy P e u f0 f1) {fuel : Nat} {cs : List Value} {x : DataW H × List MemPlace}
    (h : DataW.trod enc P w base spare held fuel t cs = some x) (hz : Sized P t x.1) : ∃ A c l, cs = [.slice A l.length c] ∧ TreeAt w A c l ∧ ∀ f ∈ l, FileOk w f := by
  rcases open_slice ht h with ⟨rfl, rfl⟩ | ⟨a, len, cap, m, n, D, Pl, rfl, _, hl, hm, hmm, rfl, hi⟩
  · exact ⟨none, 0, [], rfl, TreeAt.nil _ _ _ (Nat.zero_le _), fun f hf => by cases hf⟩
  · have hle : len ≤ m := by rw [hmm]; split <;> omega
    rw [T.cells] at hi
    have each : ∀ i, i < len → ∃ f : FX, FileOk w f ∧ w.cell? ((a.add (i * 2)).add 0) = some (.string f.p) ∧ w.cell? ((a.add (i * 2)).add 1) = some (.slice f.A f.b.length f.c) := fun i hil => by
      obtain ⟨cs', hc, ht'⟩ := hi i (by omega)
      have hsz : Sized P e (D i) := hz.elem ht (List.mem_map.2 ⟨i, List.mem_range.2 hil, rfl⟩)
      obtain ⟨f, rfl, hf⟩ := open_fileB T ht' hsz
      obtain ⟨_, _, hat⟩ := World.cells?_some hc
      exact ⟨f, hf, hat 0 (by omega), hat 1 (by omega)⟩
    obtain ⟨F, hF⟩ := choose_lt each
    have hll : ((List.range len).map F).length = len := by simp
    have hmem : ∀ f ∈ (List.range len).map F, FileOk w f := fun f hf => by
      obtain ⟨i, hi', rfl⟩ := List.mem_map.1 hf
      exact (hF i (List.mem_range.1 hi')).1
    refine ⟨some a, cap, (List.range len).map F, by rw [hll], ⟨by rw [hll]; exact hl, hm, fun hn => ?_, fun f hf => (hmem f hf).bytes⟩, hmem⟩
    rw [hll] at hn
    obtain ⟨g, o, s⟩ := a
    have h00 := (hF 0 hn).2.1
    obtain rfl : s = none := by simpa [Addr.add] using World.cell?_spot h00
    refine ⟨g, o, rfl, fun i x hx => ?_⟩
    have hil : i < len := by
      have := (List.getElem?_eq_some_iff.1 hx).1
      rwa [hll] at this
    rw [List.getElem?_map, List.getElem?_range hil] at hx
    obtain rfl : F i = x := by simpa using hx
    obtain ⟨_, h1, h2⟩ := hF i hil
    rw [Go.WideShapes.add_plain, Go.WideShapes.add_plain] at h1 h2
    exact ⟨h1, h2⟩

/-- A row of files that is an argument. -/
theorem open_treeV {t e u : TypeId} {f0 f1 : Field} (ht : P.underlying t = some (.slice e)) (T : FileTy P e u f0 f1) {r : Reach} {b0 : Nat} {v : Value} {d : DataW H} {p : List MemPlace} (hv : Value.okWide P w r b0 t v)
    (h : DataW.Trod enc P w base spare held t v d p) (hz : Sized P t d) : ∃ A c l, v = .slice A l.length c ∧ TreeAt w A c l ∧ BigX l := by
  obtain ⟨a, len, cap, rfl⟩ := okWide_slice ht hv
  obtain ⟨fuel, hf⟩ := h
  obtain ⟨A, c, l, hcs, h1, h2⟩ := open_filesB ht T hf hz
  simp only [Value.cells, List.cons.injEq, and_true] at hcs
  refine ⟨A, c, l, hcs, h1, fun x hx => ?_⟩
  have h3 := (h2 x hx).p
  have h4 := (h2 x hx).b
  unfold reachBytes at h3 h4
  exact ⟨by omega, by omega⟩

/-- A file that is an argument. -/
theorem open_fileV {t u : TypeId} {f0 f1 : Field} (T : FileTy P t u f0 f1) {r : Reach} {b0 : Nat} {v : Value} {d : DataW H} {p : List MemPlace} (hv : Value.okWide P w r b0 t v)
    (h : DataW.Trod enc P w base spare held t v d p) (hz : Sized P t d) : ∃ f : FX, v = .agg f.cs.toArray ∧ FileOk w f := by
  obtain ⟨cs, rfl, hsz⟩ := okWide_struct T.st hv
  obtain ⟨fuel, hf⟩ := h
  obtain ⟨f, hcs, h1⟩ := open_fileB T hf hz
  refine ⟨f, ?_, h1⟩
  have hcs : cs.toList = f.cs := hcs
  rw [← hcs]
end
end Go.Proofs.YtffhfllikamccaaGreatDoor
