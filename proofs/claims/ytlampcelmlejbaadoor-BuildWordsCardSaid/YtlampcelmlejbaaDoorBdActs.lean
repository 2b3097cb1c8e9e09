/-
  A map of function values that a call makes by its literal, and its look-up.
-/
import Derived.Test.YtlampcelmlejbaaDoorBdTarget
import Derived.WideMake
namespace Go.Proofs.YtlampcelmlejbaaDoor
open Go Go.RowKit Go.Shelf Go.Proofs

/-- A new key's entry, in a map whose keys are texts. -/
theorem run_insert_new {P : Program} {w : World} {mty kt et : TypeId} {r clock : Nat} {es : Array MapEntry} (s : ByteArray) (val : Value) (hm : P.underlying mty = some (.map kt et)) (hk : P.underlying kt = some .string) (hb : w.heap[r]? = some (.map es clock)) (hn : Instr.findNow .string (.string s) es.toList 0 = some none) :
    (Instr.mapUpdate mty (.map (some r)) (.string s) val).run P w = .ok () { w with heap := w.heap.setIfInBounds r (.map (es.push { key := .string s, val := val, born := clock }) (clock + 1)) } := by
  have hc : (Instr.checkKey false 10000 kt (.string s)).run P w = .ok () w := MapKept.run_checkKey (k := .string s) hk (by simp [MapKept.IsKey]) false 9999
  simp [Instr.mapUpdate, run_underlying hm, MapKept.run_getObj_map hb, hc, MapKept.run_findKey hk hn, MapKept.run_setObj_map _ hb, Result.andThen]
theorem run_lookup_hit {P : Program} {w : World} {mty kt et : TypeId} {r clock i : Nat} {es : Array MapEntry} {v : Value} (s : ByteArray) (hm : P.underlying mty = some (.map kt et)) (hk : P.underlying kt = some .string) (hb : w.heap[r]? = some (.map es clock)) (hf : Instr.findNow .string (.string s) es.toList 0 = some (some (i, v))) :
    (Instr.lookup mty (.map (some r)) (.string s) true).run P w = .ok (.tuple #[v, .bool true]) w := by
  have hc : (Instr.checkKey es.isEmpty 10000 kt (.string s)).run P w = .ok () w := MapKept.run_checkKey (k := .string s) hk (by simp [MapKept.IsKey]) _ 9999
  simp [Instr.lookup, run_underlying hm, MapKept.run_getObj_map hb, hc, MapKept.run_findKey hk hf, Result.andThen]
theorem run_lookup_miss {P : Program} {w : World} {mty kt et : TypeId} {r clock : Nat} {es : Array MapEntry} {z : Value} (s : ByteArray) (hm : P.underlying mty = some (.map kt et)) (hk : P.underlying kt = some .string) (hz : (zeroValue et).run P w = .ok z w) (hb : w.heap[r]? = some (.map es clock)) (hf : Instr.findNow .string (.string s) es.toList 0 = some none) :
    (Instr.lookup mty (.map (some r)) (.string s) true).run P w = .ok (.tuple #[z, .bool false]) w := by
  have hc : (Instr.checkKey es.isEmpty 10000 kt (.string s)).run P w = .ok () w := MapKept.run_checkKey (k := .string s) hk (by simp [MapKept.IsKey]) _ 9999
  simp [Instr.lookup, run_underlying hm, MapKept.run_getObj_map hb, hc, MapKept.run_findKey hk hf, hz, Result.andThen]
def kTarget : ByteArray := ⟨#[116, 97, 114, 103, 101, 116]⟩
def kSrc : ByteArray := ⟨#[115, 114, 99]⟩
def kDep : ByteArray := ⟨#[100, 101, 112]⟩
/-- The reader's three acts. -/
def actOf (R : Nat) (fn : FuncId) : Value := .func (.func fn) #[.pointer (some ⟨R, 0, none⟩)] #[]
def actsE (R : Nat) : Array MapEntry := #[⟨.string kTarget, actOf R 61, 0⟩, ⟨.string kSrc, actOf R 62, 1⟩, ⟨.string kDep, actOf R 63, 2⟩]
theorem acts_find (R : Nat) (s : ByteArray) : Instr.findNow .string (.string s) (actsE R).toList 0 =
    some (if s == kTarget then some (0, actOf R 61) else if s == kSrc then some (1, actOf R 62) else if s == kDep then some (2, actOf R 63) else none) := by
  unfold actsE
  simp only [Instr.findNow, Instr.sameNow]
  cases h1 : (s == kTarget) <;> cases h2 : (s == kSrc) <;> cases h3 : (s == kDep) <;> simp
/-- The map as it is made: three entries, one after the other. -/
theorem acts_made {P : Program} {w : World} {mty kt et : TypeId} (R : Nat) (hm : P.underlying mty = some (.map kt et)) (hk : P.underlying kt = some .string) :
    ∃ w1 w2 w3, (Instr.mapUpdate mty (.map (some w.heap.size)) (.string kTarget) (actOf R 61)).run P (w.alloc (.map #[] 0)) = .ok () w1 ∧
      (Instr.mapUpdate mty (.map (some w.heap.size)) (.string kSrc) (actOf R 62)).run P w1 = .ok () w2 ∧
      (Instr.mapUpdate mty (.map (some w.heap.size)) (.string kDep) (actOf R 63)).run P w2 = .ok () w3 ∧
      w3.heap[w.heap.size]? = some (.map (actsE R) 3) ∧ Below w.heap.size w w3 ∧ w3.heap.size = w.heap.size + 1 := by
  have b0 : (w.alloc (.map #[] 0)).heap[w.heap.size]? = some (.map #[] 0) := World.alloc_heap_new w _
  have r1 := run_insert_new (P := P) (mty := mty) kTarget (actOf R 61) hm hk b0 rfl
  refine ⟨_, _, _, r1, run_insert_new kSrc (actOf R 62) hm hk (MapKept.heap_set b0).1 rfl, run_insert_new kDep (actOf R 63) hm hk (MapKept.heap_set (MapKept.heap_set b0).1).1 rfl, (MapKept.heap_set (MapKept.heap_set (MapKept.heap_set b0).1).1).1, ?_, ?_⟩
  · refine ⟨rfl, rfl, rfl, by simp, fun k hk => ?_⟩
    have hne : k ≠ w.heap.size := by omega
    rw [(MapKept.heap_set (MapKept.heap_set (MapKept.heap_set b0).1).1).2 k hne, (MapKept.heap_set (MapKept.heap_set b0).1).2 k hne, (MapKept.heap_set b0).2 k hne]
    exact (MapKept.heap_alloc w _).2 k hk
  · simp
end Go.Proofs.YtlampcelmlejbaaDoor
