/-
  rule.forms: the map of words and forms that a call makes; rule.formOf: the form of a kind, by a range over that map in whatever order.
-/
import Derived.Test.YthkbpophckjdnaaDoorRlMem
import Derived.Test.YthkbpophckjdnaaDoorConsists
import Derived.WideMake
import Derived.Maps.Views
import Derived.Maps.OwnOps
import Derived.Maps.RangeWalk
import Derived.Deep.LoopGhost
import Derived.OwnWalk
import Derived.Laws.Rows
namespace Go.Proofs.YthkbpophckjdnaaDoor
open Go Go.RowKit Go.Shelf Go.Proofs Go.ChangeMaps Go.Maps Go.WideMaps
attribute [local go_sem] Oper.semAt_some

/-- A new key's entry, in a map whose keys are texts. -/
theorem run_insert_str {P : Program} {w : World} {mty kt et : TypeId} {r clock : Nat} {es : Array MapEntry} (s : ByteArray) (val : Value) (hm : P.underlying mty = some (.map kt et)) (hk : P.underlying kt = some .string) (hb : w.heap[r]? = some (.map es clock)) (hn : Instr.findNow .string (.string s) es.toList 0 = some none) :
    (Instr.mapUpdate mty (.map (some r)) (.string s) val).run P w = .ok () { w with heap := w.heap.setIfInBounds r (.map (es.push { key := .string s, val := val, born := clock }) (clock + 1)) } := by
  have hc : (Instr.checkKey false 10000 kt (.string s)).run P w = .ok () w := MapKept.run_checkKey (k := .string s) hk (by simp [MapKept.IsKey]) false 9999
  simp [Instr.mapUpdate, run_underlying hm, MapKept.run_getObj_map hb, hc, MapKept.run_findKey hk hn, MapKept.run_setObj_map _ hb, Result.andThen]
theorem run_look_hit {P : Program} {w : World} {mty kt et : TypeId} {r clock i : Nat} {es : Array MapEntry} {v : Value} (s : ByteArray) (hm : P.underlying mty = some (.map kt et)) (hk : P.underlying kt = some .string) (hb : w.heap[r]? = some (.map es clock)) (hf : Instr.findNow .string (.string s) es.toList 0 = some (some (i, v))) :
    (Instr.lookup mty (.map (some r)) (.string s) true).run P w = .ok (.tuple #[v, .bool true]) w := by
  have hc : (Instr.checkKey es.isEmpty 10000 kt (.string s)).run P w = .ok () w := MapKept.run_checkKey (k := .string s) hk (by simp [MapKept.IsKey]) _ 9999
  simp [Instr.lookup, run_underlying hm, MapKept.run_getObj_map hb, hc, MapKept.run_findKey hk hf, Result.andThen]
theorem run_look_miss {P : Program} {w : World} {mty kt et : TypeId} {r clock : Nat} {es : Array MapEntry} {z : Value} (s : ByteArray) (hm : P.underlying mty = some (.map kt et)) (hk : P.underlying kt = some .string) (hz : (zeroValue et).run P w = .ok z w) (hb : w.heap[r]? = some (.map es clock)) (hf : Instr.findNow .string (.string s) es.toList 0 = some none) :
    (Instr.lookup mty (.map (some r)) (.string s) true).run P w = .ok (.tuple #[z, .bool false]) w := by
  have hc : (Instr.checkKey es.isEmpty 10000 kt (.string s)).run P w = .ok () w := MapKept.run_checkKey (k := .string s) hk (by simp [MapKept.IsKey]) _ 9999
  simp [Instr.lookup, run_underlying hm, MapKept.run_getObj_map hb, hc, MapKept.run_findKey hk hf, hz, Result.andThen]
/-- An entry of a map's literal at the operation: its run is laid ahead. -/
theorem wpList_insert {P : Program} {w w' : World} {ops : Array Oper} {rest : List Oper} {o : Oper} {a : Act} {Q : Exit → Act → World → Prop}
    (hg : o.guard = none) (m x v : Operand) (t : TypeId) (hop : o.op = Op.insert t m x v) (mv key val : Value) (hm : a.eval m = mv) (hx : a.eval x = key) (hv : a.eval v = val)
    (hrun : (Instr.mapUpdate t mv key val).run P w = .ok () w') (hK : wpList P ops Q rest (a.put o.dst undef) w') :
    wpList P ops Q (o :: rest) a w := by
  refine wpList_plain hg fun K' hK' => ?_
  unfold Oper.wp
  simp [execOp, hop, hm, hx, hv, hrun, Result.andThen]
  exact hK' _ _ hK

def formV (k t : Int) : Value := .agg #[.int .i64 k, .int .i64 t]
def formD (k t : Int) : DataW Unit := .agg [.lit (.int .i64 k), .lit (.int .i64 t)]
def formL : List Value → Option (DataW Unit × List MemPlace)
  | [.int .i64 k, .int .i64 t] => some (formD k t, [])
  | _ => none
def formR : Value → Option (DataW Unit × List MemPlace)
  | .agg cs => formL cs.toList
  | _ => none
theorem formR_some (k t : Int) : formR (formV k t) = some (formD k t, []) := rfl
theorem formR_inv (v : Value) (y : DataW Unit × List MemPlace) (h : formR v = some y) : ∃ c : Int × Int, v = formV c.1 c.2 := by
  unfold formR at h
  split at h
  · rename_i cs
    unfold formL at h
    split at h
    · rename_i k t e
      refine ⟨(k, t), ?_⟩
      unfold formV
      have : cs = #[.int .i64 k, .int .i64 t] := by
        have := congrArg List.toArray e
        simpa using this
      rw [this]
    · cases h
  · cases h
theorem formD_inj {k t k' t' : Int} (h : formD k t = formD k' t') : k = k' ∧ t = t' := by
  unfold formD at h
  simp only [DataW.agg.injEq, List.cons.injEq, DataW.lit.injEq, Lit.int.injEq, true_and, and_true] at h
  exact h
def bRepl : ByteArray := ⟨#[114, 101, 112, 108, 97, 99, 101]⟩
def bIns : ByteArray := ⟨#[105, 110, 115, 101, 114, 116]⟩
def bStr : ByteArray := ⟨#[115, 116, 114, 105, 107, 101]⟩
def bRen : ByteArray := ⟨#[114, 101, 110, 97, 109, 101]⟩
def bRem : ByteArray := ⟨#[114, 101, 109, 111, 118, 101]⟩
def formsE : Array MapEntry := #[⟨.string bRepl, formV 1 2, 0⟩, ⟨.string bIns, formV 2 2, 1⟩, ⟨.string bStr, formV 3 1, 2⟩, ⟨.string bRen, formV 4 2, 3⟩, ⟨.string bRem, formV 5 0, 4⟩]
def formsD : DataW Unit := (((((DataW.map []).put (.string bRepl.data.toList) (formD 1 2)).put (.string bIns.data.toList) (formD 2 2)).put (.string bStr.data.toList) (formD 3 1)).put (.string bRen.data.toList) (formD 4 2)).put (.string bRem.data.toList) (formD 5 0)
theorem bs_key (s t : ByteArray) : (s == t) = (s.data.toList == t.data.toList) := by
  rw [Bool.eq_iff_iff, MapKept.bytes_beq, beq_iff_eq]
  constructor
  · intro h; rw [h]
  · intro h; rw [← data_mkB s, h, data_mkB]
theorem forms_find (s : ByteArray) : Instr.findNow .string (.string s) formsE.toList 0 =
    some (if s == bRepl then some (0, formV 1 2) else if s == bIns then some (1, formV 2 2) else if s == bStr then some (2, formV 3 1) else if s == bRen then some (3, formV 4 2) else if s == bRem then some (4, formV 5 0) else none) := by
  unfold formsE
  simp only [Instr.findNow, Instr.sameNow]
  cases h1 : (s == bRepl) <;> cases h2 : (s == bIns) <;> cases h3 : (s == bStr) <;> cases h4 : (s == bRen) <;> cases h5 : (s == bRem) <;> simp
theorem forms_hit (s : ByteArray) (h : kindW s.data.toList ≠ 0) : ∃ i, Instr.findNow .string (.string s) formsE.toList 0 = some (some (i, formV (kindW s.data.toList) (textsN (kindW s.data.toList)))) := by
  rw [forms_find]
  unfold kindW at h ⊢
  rw [bs_key s bRepl, bs_key s bIns, bs_key s bStr, bs_key s bRen, bs_key s bRem]
  rw [show bRepl.data.toList = replW from rfl, show bIns.data.toList = insW from rfl, show bStr.data.toList = strW from rfl, show bRen.data.toList = renW from rfl, show bRem.data.toList = remW from rfl]
  split
  · exact ⟨0, rfl⟩
  split
  · exact ⟨1, rfl⟩
  split
  · exact ⟨2, rfl⟩
  split
  · exact ⟨3, rfl⟩
  split
  · exact ⟨4, rfl⟩
  · rename_i h1 h2 h3 h4 h5
    rw [if_neg h1, if_neg h2, if_neg h3, if_neg h4, if_neg h5] at h
    exact absurd rfl h
theorem forms_miss (s : ByteArray) (h : kindW s.data.toList = 0) : Instr.findNow .string (.string s) formsE.toList 0 = some none := by
  rw [forms_find]
  unfold kindW at h
  rw [bs_key s bRepl, bs_key s bIns, bs_key s bStr, bs_key s bRen, bs_key s bRem]
  rw [show bRepl.data.toList = replW from rfl, show bIns.data.toList = insW from rfl, show bStr.data.toList = strW from rfl, show bRen.data.toList = renW from rfl, show bRem.data.toList = remW from rfl]
  (repeat' split at h) <;> first | (exact absurd h (by decide)) | skip
  rename_i h1 h2 h3 h4 h5
  rw [if_neg h1, if_neg h2, if_neg h3, if_neg h4, if_neg h5]
theorem put_at {D : DataW Unit} (hD : Maps.IsMap D) (s t : Bs) (d z : DataW Unit) : (D.put (.string s) d).atKey (.string t) z = if t == s then d else D.atKey (.string t) z := by
  cases h : t == s with
  | true =>
    obtain rfl := eq_of_beq h
    rw [if_pos rfl]
    exact Maps.atKey_put_same hD (by simp [WideAt.IsKeyLit]) d _
  | false =>
    rw [if_neg (by simp)]
    exact Maps.atKey_put_other (fun e => by rw [Lit.string.injEq] at e; rw [e] at h; simp at h) d _
theorem formsD_at (s : Bs) (z : DataW Unit) : formsD.atKey (.string s) z = if kindW s = 0 then z else formD (kindW s) (textsN (kindW s)) := by
  have m0 : Maps.IsMap (DataW.map [] : DataW Unit) := ⟨_, rfl⟩
  have m1 := m0.put (.string bRepl.data.toList) (formD 1 2)
  have m2 := m1.put (.string bIns.data.toList) (formD 2 2)
  have m3 := m2.put (.string bStr.data.toList) (formD 3 1)
  have m4 := m3.put (.string bRen.data.toList) (formD 4 2)
  unfold formsD
  rw [put_at m4, put_at m3, put_at m2, put_at m1, put_at m0]
  rw [show bRepl.data.toList = replW from rfl, show bIns.data.toList = insW from rfl, show bStr.data.toList = strW from rfl, show bRen.data.toList = renW from rfl, show bRem.data.toList = remW from rfl]
  unfold kindW
  cases h1 : s == replW
  · cases h2 : s == insW
    · cases h3 : s == strW
      · cases h4 : s == renW
        · cases h5 : s == remW
          · simp; rfl
          · rfl
        · obtain rfl := eq_of_beq h4; rfl
      · obtain rfl := eq_of_beq h3; rfl
    · obtain rfl := eq_of_beq h2; rfl
  · obtain rfl := eq_of_beq h1; rfl

theorem rlaw : Keyed Tryd.prog 9 := string_keyed Tryd.underlying9
/-- The map lies there. -/
structure FormsAt (w : World) (mb : Nat) : Prop where
  obj : w.heap[mb]? = some (.map formsE 5)
  own : w.ownsMap Tryd.prog 9 formR mb 5 formsD
theorem FormsAt.keep {w w' : World} {mb : Nat} (h : FormsAt w mb) (hk : w'.heap[mb]? = w.heap[mb]?) : FormsAt w' mb := by
  obtain ⟨es, clock, he, F, hs, hD⟩ := h.own
  exact ⟨hk.trans h.obj, ⟨es, clock, hk.trans he, F, hs, hD⟩⟩
theorem FormsAt.below {w w' : World} {mb : Nat} (h : FormsAt w mb) (hb : Below w.heap.size w w') : FormsAt w' mb := h.keep (hb.block mb (Array.getElem?_eq_some_iff.1 h.obj).1)
theorem forms_step {w : World} {mb n clock : Nat} {es : Array MapEntry} {D : DataW Unit} (h1 : w.heap[mb]? = some (.map es clock)) (h2 : w.ownsMap Tryd.prog 9 formR mb n D) (hn : n < 100) (s : ByteArray) (k t : Int) (hs : s.size ≤ 100) (hf : Instr.findNow .string (.string s) es.toList 0 = some none) :
    ∃ w', (Instr.mapUpdate 51 (.map (some mb)) (.string s) (formV k t)).run Tryd.prog w = .ok () w' ∧ w'.heap[mb]? = some (.map (es.push { key := .string s, val := formV k t, born := clock }) (clock + 1)) ∧ w'.ownsMap Tryd.prog 9 formR mb (n + 1) (D.put (.string s.data.toList) (formD k t)) ∧ w.grownBy w' (some mb) ∧ w'.heap.size = w.heap.size := by
  have r1 := run_insert_str (P := Tryd.prog) (mty := 51) s (formV k t) Tryd.underlying51 Tryd.underlying9 h1 hf
  obtain ⟨w', r2, o2, g2⟩ := h2.update (e := 58) rlaw Tryd.underlying51 (by unfold maxLen; omega) (keyOf_string_mk (s := s) Tryd.underlying9 (by unfold maxLen; omega)) (formR_some k t)
  have e := r2
  rw [r1] at e
  cases e
  exact ⟨_, r1, (MapKept.heap_set h1).1, o2, g2, by simp⟩
set_option maxRecDepth 100000 in
set_option maxHeartbeats 4000000 in
theorem forms_any (w : World) : Calls Tryd.prog 27 #[] w fun e w' => e = .returned (.map (some w.heap.size)) ∧ FormsAt w' w.heap.size ∧ Below w.heap.size w w' ∧ w'.heap.size = w.heap.size + 1 := by
  have b0 : (w.alloc (.map #[] 0)).heap[w.heap.size]? = some (.map #[] 0) := World.alloc_heap_new w _
  have o0 := World.ownsMap_made w Tryd.prog 9 formR
  obtain ⟨w1, r1, b1, o1, g1, z1⟩ := forms_step b0 o0 (by omega) bRepl 1 2 (by decide) rfl
  obtain ⟨w2, r2, b2, o2, g2, z2⟩ := forms_step b1 o1 (by omega) bIns 2 2 (by decide) rfl
  obtain ⟨w3, r3, b3, o3, g3, z3⟩ := forms_step b2 o2 (by omega) bStr 3 1 (by decide) rfl
  obtain ⟨w4, r4, b4, o4, g4, z4⟩ := forms_step b3 o3 (by omega) bRen 4 2 (by decide) rfl
  obtain ⟨w5, r5, b5, o5, g5, z5⟩ := forms_step b4 o4 (by omega) bRem 5 0 (by decide) rfl
  have hfa : FormsAt w5 w.heap.size := ⟨b5, o5⟩
  have bg : ∀ {x y : World}, x.grownBy y (some w.heap.size) → w.heap.size ≤ x.heap.size → Below w.heap.size x y := fun h hz => ⟨h.os, h.tape, h.output, h.size, fun k hk => h.block k (by omega) (fun e => by cases e; omega)⟩
  have hb0 : Below w.heap.size w (w.alloc (.map #[] 0)) := (Below.refl _ w).alloc (Nat.le_refl _) _
  have z0 : (w.alloc (.map #[] 0)).heap.size = w.heap.size + 1 := World.size_alloc _ _
  have hb : Below w.heap.size w w5 := ((((hb0.trans (bg g1 (by omega))).trans (bg g2 (by omega))).trans (bg g3 (by omega))).trans (bg g4 (by omega))).trans (bg g5 (by omega))
  have hz : w5.heap.size = w.heap.size + 1 := by omega
  have HFA := Lib.hid hfa
  have HB := Lib.hid hb
  have HZ := Lib.hid hz
  have hmk := run_makeMap_plain (P := Tryd.prog) w 51
  simp only [formV, bRepl, bIns, bStr, bRen, bRem] at r1 r2 r3 r4 r5
  clear b0 o0 b1 o1 g1 z1 b2 o2 g2 z2 b3 o3 g3 z3 b4 o4 g4 z4 b5 o5 g5 z5 hfa bg hb0 z0 hb hz
  go_enter Tryd.func27, Tryd.ntmps27
  go_wp2_with (first | (refine wpList_insert rfl _ _ _ _ rfl _ _ _ rfl rfl rfl r1 ?_) | (refine wpList_insert rfl _ _ _ _ rfl _ _ _ rfl rfl rfl r2 ?_) | (refine wpList_insert rfl _ _ _ _ rfl _ _ _ rfl rfl rfl r3 ?_) | (refine wpList_insert rfl _ _ _ _ rfl _ _ _ rfl rfl rfl r4 ?_) | (refine wpList_insert rfl _ _ _ _ rfl _ _ _ rfl rfl rfl r5 ?_))
  go_ret
  exact ⟨rfl, HFA.out, HB.out, HZ.out⟩
end Go.Proofs.YthkbpophckjdnaaDoor
