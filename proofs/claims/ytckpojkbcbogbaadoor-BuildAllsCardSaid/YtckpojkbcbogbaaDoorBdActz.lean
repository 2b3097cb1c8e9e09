/-
  A map of function values that a call makes by its literal, and its look-up. · What reading a line wants: the three acts as one; bounds; where the reader's base is. · The map of the three acts as its literal may make it: the region draws the order of the three entries. · What is known between two lines of a BUILD file, and that it stays where the lines' sequence turns its own. · A region that draws its order, within a round of a range over a function: what only reads, and calls what only reads, is walked once, in the text's order. No program is named here. · The contract of the reader's read.
-/
import Derived.Test.YtckpojkbcbogbaaDoorBdTarget
import Derived.WideMake
import Derived.Maps.OwnIn
import Derived.Sort.QuietIn
import Derived.RangeFuncCalls
import Derived.Deep.RegionHeld3
import Derived.WalkSmall
import Derived.WalkMore
import Derived.Deep.MidRow
import Derived.Deep.Onto
import Derived.Laws.EntriesVeiled
import Derived.BigQuiet
namespace Go.Proofs.YtckpojkbcbogbaaDoor
open Go Go.RowKit Go.Shelf Go.Proofs

/-- A new key's entry, in a map whose keys are texts. -/
theorem run_insert_new {P : Program} {w : World} {mty kt et : TypeId} {r clock : Nat} {es : Array MapEntry} (s : ByteArray) (val : Value) (hm : P.underlying mty = some (.map kt et)) (hk : P.underlying kt = some .string) (hb : w.heap[r]? = some (.map es clock)) (hn : Instr.findNow .string (.string s) es.toList 0 = some none) :
    (Instr.mapUpdate mty (.map (some r)) (.string s) val).run P w = .ok () { w with heap := w.heap.setIfInBounds r (.map (es.push { key := .string s, val := val, born := clock }) (clock + 1)) } := by
  have hc : (Instr.checkKey false 10000 kt (.string s)).run P w = .ok () w := MapKept.run_checkKey (k := .string s) hk (by simp [MapKept.IsKey]) false 9999
  simp [Instr.mapUpdate, run_underlying hm, MapKept.run_getObj_map hb, hc, MapKept.run_findKey hk hn, MapKept.run_setObj_map _ hb, Result.andThen]
theorem run_lookup_hit {P : Program} {w : World} {mty kt et : TypeId} {r clock i : Nat} {es : Array MapEntry} {v : Value} (s : ByteArray) (hm : P.underlying mty = some (.map kt et)) (hk : P.underlying kt = some .string) (hb : w.heap[r]? = some (.map es clock)) (hf : Instr.findNow .string (.string s) es.toList 0 = some (some (i, v))) :
    (Instr.lookup mty (.map (some r)) (.string s) true).run P w = .ok (.tuple #[v, .bool true]) w := by
  have hc : (Instr.checkKey es.isEmpty 10000 kt (.string s)).run P w = .ok () w := MapKept.run_checkKey (k := .string s) hk (by simp [MapKept.IsKey]) _ 9999
  simp [Instr.lookup, run_underlying hm, MapKept.run_getObj_map hb, hc, MapKept.run_findKey hk hf, Result.andThen]
theorem run_lookup_miss {P : Program} {w : World} {mty kt et : TypeId} {r clock : Nat} {es : Array MapEntry} {z : Value} (s : ByteArray) (hm : P.underlying mty = some (.map kt et)) (hk : P.underlying kt = some .string) (hz : (zeroValue et).run P w = .ok z w) (hb : w.heap[r]? = some (.map es clock)) (hf : Instr.findNow .string (.string s) es.toList 0 = some none) :
    (Instr.lookup mty (.map (some r)) (.string s) true).run P w = .ok (.tuple #[z, .bool false]) w := by
  have hc : (Instr.checkKey es.isEmpty 10000 kt (.string s)).run P w = .ok () w := MapKept.run_checkKey (k := .string s) hk (by simp [MapKept.IsKey]) _ 9999
  simp [Instr.lookup, run_underlying hm, MapKept.run_getObj_map hb, hc, MapKept.run_findKey hk hf, hz, Result.andThen]
def kTarget : ByteArray := ⟨#[116, 97, 114, 103, 101, 116]⟩
def kSrc : ByteArray := ⟨#[115, 114, 99]⟩
def kDep : ByteArray := ⟨#[100, 101, 112]⟩
/-- The reader's three acts. -/
def actOf (R : Nat) (fn : FuncId) : Value := .func (.func fn) #[.pointer (some ⟨R, 0, none⟩)] #[]
def actsE (R : Nat) : Array MapEntry := #[⟨.string kTarget, actOf R 61, 0⟩, ⟨.string kSrc, actOf R 62, 1⟩, ⟨.string kDep, actOf R 63, 2⟩]
theorem acts_find (R : Nat) (s : ByteArray) : Instr.findNow .string (.string s) (actsE R).toList 0 =
    some (if s == kTarget then some (0, actOf R 61) else if s == kSrc then some (1, actOf R 62) else if s == kDep then some (2, actOf R 63) else none) := by
  unfold actsE
  simp only [Instr.findNow, Instr.sameNow]
  cases h1 : (s == kTarget) <;> cases h2 : (s == kSrc) <;> cases h3 : (s == kDep) <;> simp
/-- The map as it is made: three entries, one after the other. -/
theorem acts_made {P : Program} {w : World} {mty kt et : TypeId} (R : Nat) (hm : P.underlying mty = some (.map kt et)) (hk : P.underlying kt = some .string) :
    ∃ w1 w2 w3, (Instr.mapUpdate mty (.map (some w.heap.size)) (.string kTarget) (actOf R 61)).run P (w.alloc (.map #[] 0)) = .ok () w1 ∧
      (Instr.mapUpdate mty (.map (some w.heap.size)) (.string kSrc) (actOf R 62)).run P w1 = .ok () w2 ∧
      (Instr.mapUpdate mty (.map (some w.heap.size)) (.string kDep) (actOf R 63)).run P w2 = .ok () w3 ∧
      w3.heap[w.heap.size]? = some (.map (actsE R) 3) ∧ Below w.heap.size w w3 ∧ w3.heap.size = w.heap.size + 1 := by
  have b0 : (w.alloc (.map #[] 0)).heap[w.heap.size]? = some (.map #[] 0) := World.alloc_heap_new w _
  have r1 := run_insert_new (P := P) (mty := mty) kTarget (actOf R 61) hm hk b0 rfl
  refine ⟨_, _, _, r1, run_insert_new kSrc (actOf R 62) hm hk (MapKept.heap_set b0).1 rfl, run_insert_new kDep (actOf R 63) hm hk (MapKept.heap_set (MapKept.heap_set b0).1).1 rfl, (MapKept.heap_set (MapKept.heap_set (MapKept.heap_set b0).1).1).1, ?_, ?_⟩
  · refine ⟨rfl, rfl, rfl, by simp, fun k hk => ?_⟩
    have hne : k ≠ w.heap.size := by omega
    rw [(MapKept.heap_set (MapKept.heap_set (MapKept.heap_set b0).1).1).2 k hne, (MapKept.heap_set (MapKept.heap_set b0).1).2 k hne, (MapKept.heap_set b0).2 k hne]
    exact (MapKept.heap_alloc w _).2 k hk
  · simp
end Go.Proofs.YtckpojkbcbogbaaDoor
namespace Go.Proofs.YtckpojkbcbogbaaDoor
open Go Go.RowKit Go.Shelf Go.Proofs

theorem key_eq (wd k : ByteArray) (K : Bs) (hk : k.data.toList = K) : (wd == k) = (wd.data.toList == K) := by
  subst hk
  rw [Bool.eq_iff_iff, MapKept.bytes_beq, beq_iff_eq]
  exact ⟨fun e => by rw [e], fun h => by cases wd; cases k; congr 1; exact Array.toList_inj.1 h⟩
theorem kTarget_l : kTarget.data.toList = tgtW := by decide
theorem kSrc_l : kSrc.data.toList = srcW := by decide
theorem kDep_l : kDep.data.toList = depW := by decide
/-- The three acts: which one a word names, and what it does. -/
theorem act_any (base R m : Nat) (dir : ByteArray) (L : List TX) (K : List Bs) (wd t : ByteArray) (W : World) (h : RdO base R m dir L K W) (hK : K = (tgsX L).map (·.n)) (hl : L.length ≤ 100000) (hl2 : ∀ x ∈ L, x.s.length ≤ 100000 ∧ x.d.length ≤ 100000) (hR : R < base) (hm : m < base) (hRm : R ≠ m) (hbase : base ≤ W.heap.size) (hd : dir.size ≤ 100000) (ht : t.size ≤ 100000) (hM : MaxOk W) :
    (∃ (i : Nat) (fn : FuncId), (fn = 61 ∨ fn = 62 ∨ fn = 63) ∧ Instr.findNow .string (.string wd) (actsE R).toList 0 = some (some (i, actOf R fn)) ∧
      Calls Tryd.prog fn #[.pointer (some ⟨R, 0, none⟩), .string t] W (ActPost base R m dir (actT dir.data.toList (tgsX L) wd.data.toList t.data.toList) W)) ∨
    (Instr.findNow .string (.string wd) (actsE R).toList 0 = some none ∧ actT dir.data.toList (tgsX L) wd.data.toList t.data.toList = .error 11) := by
  rw [acts_find, key_eq wd _ _ kTarget_l, key_eq wd _ _ kSrc_l, key_eq wd _ _ kDep_l]
  unfold actT
  cases h1 : (wd.data.toList == tgtW) with
  | true => exact .inl ⟨0, _, .inl rfl, rfl, btarget_any base R m dir L K t W h hK hl hR hm hRm hbase hd ht⟩
  | false =>
    cases h2 : (wd.data.toList == srcW) with
    | true => exact .inl ⟨1, _, .inr (.inl rfl), rfl, bsrc_any base R m dir L K t W h hK (fun x hx => (hl2 x hx).1) hR hm hbase hd ht hM⟩
    | false =>
      cases h3 : (wd.data.toList == depW) with
      | true => exact .inl ⟨2, _, .inr (.inr rfl), rfl, bdep_any base R m dir L K t W h hK (fun x hx => (hl2 x hx).2) hR hm hbase hd ht hM⟩
      | false => exact .inr ⟨rfl, rfl⟩

/-- No more targets, and of each no more files and no more that it stands on, than lines were read. -/
def BdK (k : Nat) (l : List Tg) : Prop := l.length ≤ k ∧ ∀ x ∈ l, x.s.length ≤ k ∧ x.d.length ≤ k
theorem lastM_len (f : Tg → Tg) : ∀ l : List Tg, (lastM f l).length = l.length
  | [] => rfl
  | [_] => rfl
  | x :: y :: r => by show (lastM f (y :: r)).length + 1 = _; rw [lastM_len f (y :: r)]; rfl
theorem lastM_mem (f : Tg → Tg) : ∀ (l : List Tg) (x : Tg), x ∈ lastM f l → x ∈ l ∨ ∃ y ∈ l, x = f y
  | [], x, h => by cases h
  | [a], x, h => by
    have : x = f a := by simpa [lastM] using h
    exact .inr ⟨a, by simp, this⟩
  | a :: b :: r, x, h => by
    rcases List.mem_cons.1 (show x ∈ a :: lastM f (b :: r) from h) with e | h
    · exact .inl (by simp [e])
    · rcases lastM_mem f (b :: r) x h with h | ⟨y, hy, e⟩
      · exact .inl (List.mem_cons_of_mem _ h)
      · exact .inr ⟨y, List.mem_cons_of_mem _ hy, e⟩
theorem BdK.mono {k j : Nat} {l : List Tg} (h : BdK k l) (hj : k ≤ j) : BdK j l := ⟨Nat.le_trans h.1 hj, fun x hx => ⟨Nat.le_trans (h.2 x hx).1 hj, Nat.le_trans (h.2 x hx).2 hj⟩⟩
theorem BdK.line {k : Nat} {dir : Bs} {l l' : List Tg} {ws : List Bs} (h : BdK k l) (e : lineT dir l ws = .ok l') : BdK (k + 1) l' := by
  unfold lineT at e
  split at e
  · cases e; exact h.mono (by omega)
  · unfold actT at e
    split at e
    · unfold targetT at e
      split at e
      · split at e
        · cases e
        · cases e
          refine ⟨by simp; exact h.1, fun x hx => ?_⟩
          rcases List.mem_append.1 hx with hx | hx
          · exact (h.mono (Nat.le_succ k)).2 x hx
          · simp only [List.mem_singleton] at hx; subst hx; simp
      · cases e
    · split at e
      · unfold srcT at e
        split at e
        · cases e
          refine ⟨by rw [lastM_len]; exact Nat.le_succ_of_le h.1, fun x hx => ?_⟩
          rcases lastM_mem _ _ _ hx with hx | ⟨y, hy, rfl⟩
          · exact (h.mono (Nat.le_succ k)).2 x hx
          · have := h.2 y hy; simp; omega
        · cases e
      · split at e
        · unfold depT at e
          split at e
          · cases e
          · split at e
            · cases e
            · cases e
              refine ⟨by rw [lastM_len]; exact Nat.le_succ_of_le h.1, fun x hx => ?_⟩
              rcases lastM_mem _ _ _ hx with hx | ⟨y, hy, rfl⟩
              · exact (h.mono (Nat.le_succ k)).2 x hx
              · have := h.2 y hy; simp; omega
        · cases e
  · cases e
/-- A reader that has read nothing has any base. -/
theorem RdO.rebase {base base' R m : Nat} {dir : ByteArray} {W : World} (h : RdO base R m dir [] [] W) (hn : ∃ c, W.heap[R]? = some (.cells #[.pointer none, .string dir, .slice none 0 c, .map (some m)] 70 (0, 0)) ∧ c = 0) : RdO base' R m dir [] [] W := by
  obtain ⟨c, hc, rfl⟩ := hn
  refine ⟨⟨none, 0, by simpa [endA] using hc, World.ownsRow_nil _ _ _ _⟩, (fun x hx => by cases hx), (fun M x e => by simp at e), h.names⟩
theorem TurnR.rebase {base base' R m : Nat} {W W' : World} (h : TurnR base' R m W W') (hb : base ≤ base') : TurnR base R m W W' :=
  ⟨h.os, h.tape, h.output, h.size, fun j hj => h.low j (by omega), h.same⟩
/-- What was read so far: the lines up to k. -/
def readTo (dir : Bs) (s : ByteArray) (k : Nat) : Except Int (List Tg) := linesT dir (((splitL 10 s.data.toList).take k).map wordsL) (.ok [])
theorem readTo_step {dir : Bs} {s : ByteArray} {k : Nat} {x : ByteArray} {l : List Tg} (hx : (piecesB 10 s)[k]? = some x) (h : readTo dir s k = .ok l) : readTo dir s (k + 1) = lineT dir l (wordsL x.data.toList) := by
  unfold readTo at h ⊢
  unfold piecesB at hx
  rw [List.getElem?_map] at hx
  cases e : (splitL 10 s.data.toList)[k]? with
  | none => rw [e] at hx; cases hx
  | some p =>
    rw [e] at hx
    cases hx
    rw [List.take_add_one, e, Option.toList_some, List.map_append]
    unfold linesT at h ⊢
    rw [List.foldl_append, h, mkB_data]
    rfl
end Go.Proofs.YtckpojkbcbogbaaDoor
namespace Go.Proofs.YtckpojkbcbogbaaDoor
open Go Go.RowKit Go.Shelf Go.Proofs

/-- An entry of a map's literal at the operation, for a fenced walk: its run is laid ahead. -/
theorem wpListIn_insert {P : Program} {F : Fence} {nF : Nat} {w w' : World} {ops : Array Oper} {rest : List Oper} {o : Oper} {a : Act} {Q : Exit → Act → World → Prop}
    (hg : o.guard = none) (m x v : Operand) (t : TypeId) (hop : o.op = Op.insert t m x v) (mv key val : Value) (hm : a.eval m = mv) (hx : a.eval x = key) (hv : a.eval v = val)
    (hrun : (Instr.mapUpdate t mv key val).run P w = .ok () w') (hK : wpListIn F nF P ops Q rest (a.put o.dst undef) w') :
    wpListIn F nF P ops Q (o :: rest) a w := by
  refine wpListIn_plain hg fun K' hK' => ?_
  unfold Oper.wpIn
  refine ⟨by simp [Oper.about, hop], ?_⟩
  rw [Oper.semAt_plain F _ _ (by rw [hop]; intro c hc'; cases hc')]
  simp [execOp, hop, hm, hx, hv, hrun, Result.andThen]
  exact hK' _ _ hK
/-- The block mb has these entries; else only what is new was turned. -/
structure InsI (b mb : Nat) (w0 W : World) (es : Array MapEntry) (clock : Nat) : Prop where
  map : W.heap[mb]? = some (.map es clock)
  low : Below b w0 W
theorem InsI.step {P : Program} {mty kt et : TypeId} {b mb clock : Nat} {w0 W : World} {es : Array MapEntry} (h : InsI b mb w0 W es clock) (hb : b ≤ mb) (s : ByteArray) (v : Value) (hm : P.underlying mty = some (.map kt et)) (hk : P.underlying kt = some .string) (hn : Instr.findNow .string (.string s) es.toList 0 = some none) :
    ∃ W', (Instr.mapUpdate mty (.map (some mb)) (.string s) v).run P W = .ok () W' ∧ W'.heap.size = W.heap.size ∧ InsI b mb w0 W' (es.push { key := .string s, val := v, born := clock }) (clock + 1) := by
  refine ⟨_, run_insert_new s v hm hk h.map hn, by simp, ⟨(MapKept.heap_set h.map).1, h.low.trans ⟨rfl, rfl, rfl, by simp, fun k hk => ?_⟩⟩⟩
  exact (MapKept.heap_set h.map).2 k (by omega)
/-- What a word names, in whatever order the entries stand. -/
def FindsActs (R : Nat) (es : Array MapEntry) : Prop := ∀ s : ByteArray,
    (s == kTarget) = true ∧ (∃ i, Instr.findNow .string (.string s) es.toList 0 = some (some (i, actOf R 61))) ∨
    (s == kSrc) = true ∧ (∃ i, Instr.findNow .string (.string s) es.toList 0 = some (some (i, actOf R 62))) ∨
    (s == kDep) = true ∧ (∃ i, Instr.findNow .string (.string s) es.toList 0 = some (some (i, actOf R 63))) ∨
    ((s == kTarget) = false ∧ (s == kSrc) = false ∧ (s == kDep) = false) ∧ Instr.findNow .string (.string s) es.toList 0 = some none
theorem finds_of (R : Nat) (es : Array MapEntry) (e1 e2 e3 : MapEntry) (he : es.toList = [e1, e2, e3])
    (h : ∀ x, x ∈ [e1, e2, e3] → (x.key = .string kTarget ∧ x.val = actOf R 61) ∨ (x.key = .string kSrc ∧ x.val = actOf R 62) ∨ (x.key = .string kDep ∧ x.val = actOf R 63))
    (hall : (∃ x ∈ [e1, e2, e3], x.key = .string kTarget) ∧ (∃ x ∈ [e1, e2, e3], x.key = .string kSrc) ∧ (∃ x ∈ [e1, e2, e3], x.key = .string kDep)) : FindsActs R es := by
  intro s
  have hks : ∀ x ∈ es.toList, MapKept.IsKey .string x.key := fun x hx => by
    rw [he] at hx
    rcases h x hx with ⟨h1, _⟩ | ⟨h1, _⟩ | ⟨h1, _⟩ <;> rw [h1] <;> simp [MapKept.IsKey]
  rcases MapKept.findNow_spec (d := .string) (k := .string s) (by simp [MapKept.IsKey]) es.toList 0 hks with ⟨h1, h2⟩ | ⟨j, e, h1, h2, h3⟩
  · refine .inr (.inr (.inr ⟨⟨?_, ?_, ?_⟩, h1⟩))
    all_goals rw [Bool.eq_false_iff]; intro q; rw [MapKept.bytes_beq] at q; subst q
    · obtain ⟨x, hx, hk⟩ := hall.1; exact h2 x (by rw [he]; exact hx) hk
    · obtain ⟨x, hx, hk⟩ := hall.2.1; exact h2 x (by rw [he]; exact hx) hk
    · obtain ⟨x, hx, hk⟩ := hall.2.2; exact h2 x (by rw [he]; exact hx) hk
  · have hx : e ∈ [e1, e2, e3] := by rw [← he]; exact List.mem_of_getElem? h2
    rcases h e hx with ⟨g1, g2⟩ | ⟨g1, g2⟩ | ⟨g1, g2⟩
    · rw [g1] at h3; rw [g2] at h1
      have : kTarget = s := by simpa using h3
      exact .inl ⟨by rw [MapKept.bytes_beq]; exact this.symm, _, h1⟩
    · rw [g1] at h3; rw [g2] at h1
      have : kSrc = s := by simpa using h3
      exact .inr (.inl ⟨by rw [MapKept.bytes_beq]; exact this.symm, _, h1⟩)
    · rw [g1] at h3; rw [g2] at h1
      have : kDep = s := by simpa using h3
      exact .inr (.inr (.inl ⟨by rw [MapKept.bytes_beq]; exact this.symm, _, h1⟩))
end Go.Proofs.YtckpojkbcbogbaaDoor
namespace Go.Proofs.YtckpojkbcbogbaaDoor
open Go Go.RowKit Go.Shelf Go.Proofs

theorem ownsRow_keepC {base e size n : Nat} {w w' : World} {v : Value} {xs : List Value} (h : w.ownsRow base e size v n xs) (hk : ∀ j cur, base ≤ j → w.heap[j]? = some (.cells cur e (0, 0)) → w'.heap[j]? = some (.cells cur e (0, 0))) : w'.ownsRow base e size v n xs :=
  ⟨h.1, h.2.imp id fun ⟨g, cap, cur, hv, hb, hg, r⟩ => ⟨g, cap, cur, hv, hb, hk g _ hb hg, r⟩⟩
/-- What it reads of its own are cells. -/
theorem RdO.kept2 {base R m : Nat} {dir : ByteArray} {L : List TX} {K : List Bs} {W W' : World} (h : RdO base R m dir L K W) (hs : W.heap.size ≤ W'.heap.size) (hR : ∀ o, W.heap[R]? = some o → W'.heap[R]? = some o) (hm : ∀ o, W.heap[m]? = some o → W'.heap[m]? = some o)
    (hk : ∀ (j : Nat) (cur : Array Value) (t : TypeId), base ≤ j → W.heap[j]? = some (.cells cur t (0, 0)) → W'.heap[j]? = some (.cells cur t (0, 0))) : RdO base R m dir L K W' := by
  obtain ⟨A, c, h1, h2⟩ := h.box
  refine ⟨⟨A, c, hR _ h1, ownsRow_keepC h2 fun j o hb ho => hk j o _ hb ho⟩, fun x hx => (h.own x hx).keep hs fun j o hb _ ho => hk j _ _ hb ho, fun M x e => ?_, h.names.keep fun o ho => hm o ho⟩
  obtain ⟨hl, ha⟩ := h.last M x e
  exact ⟨⟨ownsRow_keepC hl.s fun j o hb ho => hk j o _ hb ho, ownsRow_keepC hl.d fun j o hb ho => hk j o _ hb ho, hl.ne⟩, ha⟩
theorem TurnR.grown {base R m : Nat} {w X Y : World} {row : Option Nat} (h : TurnR base R m w X) (hg : X.grownBy Y row) (hb : w.heap.size ≤ base) (hr : ∀ r, row = some r → base ≤ r) : TurnR base R m w Y :=
  ⟨hg.os.trans h.os, hg.tape.trans h.tape, hg.output.trans h.output, Nat.le_trans h.size hg.size, fun j hj hs h1 h2 => (hg.block j (Nat.lt_of_lt_of_le hs h.size) (fun e => by have := hr j e.symm; omega)).trans (h.low j hj hs h1 h2),
    fun j o ho h1 h2 h3 h4 => by
      have hj := (Array.getElem?_eq_some_iff.1 ho).1
      exact (hg.block j (Nat.lt_of_lt_of_le hj h.size) (fun e => by have := hr j e.symm; omega)).trans (h.same j o ho h1 h2 h3 h4)⟩
theorem TurnR.from {base R m B : Nat} {W W' : World} (h : TurnR base R m W W') (hR : R < B) (hm : m < B) : KeepsFrom B W W' :=
  ⟨h.size, fun k o hk hw ho => h.same k o hw (by omega) (by omega) (fun cur fr e => by subst e; cases ho) (fun cur fr e => by subst e; cases ho)⟩
/-- Between two lines. -/
def ReadI (R m : Nat) (dir s : ByteArray) (w : World) (k : Nat) (W : World) : Prop :=
  Boxed W (w.heap.size + 2) 102 (.map (some (w.heap.size + 1))) ∧ W.heap[w.heap.size + 1]? = some (.map (actsE R) 3) ∧ Boxed W w.heap.size 27 (.int .i64 0) ∧
    (∃ L, Hid (readTo dir.data.toList s k = .ok (tgsX L)) ∧ RdO (w.heap.size + 6) R m dir L ((tgsX L).map (·.n)) W ∧ BdK k (tgsX L)) ∧ TurnR w.heap.size R m w W
/-- Where a line may not be. -/
def ReadX (R m : Nat) (dir s : ByteArray) (w : World) (c : Code) (k : Nat) (W : World) : Prop :=
  c = .ret ∧ ∃ n L K, Hid (readTo dir.data.toList s (k + 1) = .error n ∧ n ≠ 0) ∧ RdO (w.heap.size + 6) R m dir L K W ∧ Boxed W w.heap.size 27 (.int .i64 n) ∧ TurnR w.heap.size R m w W
theorem RdO.turned {b R m : Nat} {dir : ByteArray} {L : List TX} {K : List Bs} {X Y : World} {row : Option Nat} (h : RdO (b + 6) R m dir L K X) (hR : R < b) (hm : m < b) (hg : X.grownBy Y row) (hr : ∀ r, row = some r → OnlyS (b + 3) r ∨ (b + 6 ≤ r ∧ ∃ o : Obj, X.heap[r]? = some o ∧ o.isCells = false)) : RdO (b + 6) R m dir L K Y := by
  have low : ∀ j o, X.heap[j]? = some o → j < b → Y.heap[j]? = some o := fun j o hj hlt => (hg.block j (Array.getElem?_eq_some_iff.1 hj).1 (fun e => by
    rcases hr j e.symm with h | ⟨h, _⟩
    · unfold OnlyS at h; omega
    · omega)).trans hj
  refine h.kept2 hg.size (fun o ho => low R o ho hR) (fun o ho => low m o ho hm) fun j cur t hb hj => (hg.block j (Array.getElem?_eq_some_iff.1 hj).1 (fun e => ?_)).trans hj
  rcases hr j e.symm with h | ⟨_, o, ho, hc⟩
  · unfold OnlyS at h; omega
  · rw [hj] at ho; cases ho; cases hc
theorem readI_own {R m : Nat} {dir s : ByteArray} {w W0 : World} (hs0 : W0.heap.size = w.heap.size + 6) (hR : R < w.heap.size) (hm : m < w.heap.size) : OwnTo (OnlyS (w.heap.size + 3)) W0.heap.size (fun k W => ReadI R m dir s w k W) := by
  rintro k X Y row ⟨h1, h2, h3, ⟨L, h4, h5, h6⟩, h7⟩ hg hr
  rw [hs0] at hr
  have keep : ∀ j o, X.heap[j]? = some o → j < w.heap.size + 6 → j ≠ w.heap.size + 3 → Y.heap[j]? = some o := fun j o hj hlt hne => (hg.block j (Array.getElem?_eq_some_iff.1 hj).1 (fun e => by
    rcases hr j e.symm with h | ⟨h, _⟩
    · exact hne h
    · omega)).trans hj
  refine ⟨keep _ _ h1 (by omega) (by omega), keep _ _ h2 (by omega) (by omega), keep _ _ h3 (by omega) (by omega), ⟨L, h4, h5.turned hR hm hg hr, h6⟩, h7.grown hg (Nat.le_refl _) fun r e => ?_⟩
  rcases hr r e with h | ⟨h, _⟩
  · unfold OnlyS at h; omega
  · omega
theorem readX_own {R m : Nat} {dir s : ByteArray} {w W0 : World} {c : Code} (hs0 : W0.heap.size = w.heap.size + 6) (hR : R < w.heap.size) (hm : m < w.heap.size) : OwnTo (OnlyS (w.heap.size + 3)) W0.heap.size (fun k W => ReadX R m dir s w c k W) := by
  rintro k X Y row ⟨h0, n, L, K, h4, h5, h3, h7⟩ hg hr
  rw [hs0] at hr
  have keep : ∀ j o, X.heap[j]? = some o → j < w.heap.size + 6 → j ≠ w.heap.size + 3 → Y.heap[j]? = some o := fun j o hj hlt hne => (hg.block j (Array.getElem?_eq_some_iff.1 hj).1 (fun e => by
    rcases hr j e.symm with h | ⟨h, _⟩
    · exact hne h
    · omega)).trans hj
  refine ⟨h0, n, L, K, h4, h5.turned hR hm hg hr, keep _ _ h3 (by omega) (by omega), h7.grown hg (Nat.le_refl _) fun r e => ?_⟩
  rcases hr r e with h | ⟨h, _⟩
  · unfold OnlyS at h; omega
  · omega
end Go.Proofs.YtckpojkbcbogbaaDoor
namespace Go.Proofs.YtckpojkbcbogbaaDoor
open Go Go.RowKit

theorem wide_fn (f : FuncId) : Fence.wide.fn f = True := rfl
theorem oper_round {F : Fence} {n : Nat} {P : Program} {o : Oper} {a : Act} {w : World} {K : Act → World → Prop} {Q : Exit → Act → World → Prop} (r : Nat) (hnd : ∀ c, o.op ≠ .defer c) (h : Oper.wpIn F n P o a w K Q) : Oper.wpIn (F.inRound r) n P o a w K Q := by
  unfold Oper.wpIn at h ⊢
  rw [Oper.semAt_eq _ _ _ hnd] at h ⊢
  refine ⟨h.1, ?_⟩
  have hh := h.2
  generalize (execOp a.eval o).run P w = res at hh ⊢
  cases res with
  | ok x w' =>
    cases x <;> simp only [Oper.uponIn] at hh ⊢ <;> exact hh
  | halt x w' => cases x <;> simp only [Oper.uponIn] at hh ⊢ <;> exact hh
def noDefer (l : List Oper) : Bool := l.all fun o => match o.op with
  | .defer _ => false
  | _ => true
theorem wpOpIn_round {F : Fence} {n : Nat} {P : Program} {ops : Array Oper} {Q : Exit → Act → World → Prop} {i : Nat} {K K' : Act → World → Prop} {a : Act} {w : World} (r : Nat) (hnd : noDefer ops.toList = true) (hK : ∀ a w, K a w → K' a w) (h : wpOpIn F n P ops Q i K a w) : wpOpIn (F.inRound r) n P ops Q i K' a w := by
  refine wpOpIn_mono hK ?_
  unfold wpOpIn at h ⊢
  cases ho : ops[i]? with
  | none => simpa [ho] using h
  | some o =>
    simp only [ho] at h ⊢
    have hd : ∀ c, o.op ≠ .defer c := fun c e => by
      have := List.all_eq_true.1 hnd o (by
        have hm := Array.mem_of_getElem? ho
        simpa using hm)
      rw [e] at this; cases this
    split
    · rename_i hw
      simp only [hw, if_true] at h
      exact oper_round r hd h
    · rename_i hw
      simp only [hw] at h
      exact h
theorem wpAnyIn_round {F : Fence} {n : Nat} {P : Program} {md : Region.Mode} {ops : Array Oper} {Q : Exit → Act → World → Prop} (r : Nat) (hnd : noDefer ops.toList = true) : ∀ (fuel : Nat) (listed : Array Bool) (a : Act) (w : World),
    wpAnyIn F n P md ops Q fuel listed a w → wpAnyIn (F.inRound r) n P md ops Q fuel listed a w
  | 0, _, _, _, h => h
  | fuel + 1, _, _, _, h => ⟨h.1, fun i hi => wpOpIn_round r hnd (fun a w => wpAnyIn_round r hnd fuel _ a w) (h.2 i hi)⟩
theorem wpIn_round_quiet_lit {F : Fence} {n : Nat} {P : Program} {r : Nat} {id : Nat} {Q : Exit → Act → World → Prop} {a : Act} {w : World} {l : List Oper} (hro : F.round = none) (hm : P.follows .mixedOrders = true) (hB : Region.lexB .any l.toArray = true) (hnd : noDefer l = true)
    (h : wpQuietIn F n P l.toArray (fun w' => ∃ n, w' = w.drewN n) (fun a' => ∀ w', (∃ n, w' = w.drewN n) → Q .normal a' w') l a) : (Code.region id l.toArray true).wpIn (F.inRound r) n P Q a w := by
  have hB' := hB
  simp only [Region.lexB, Bool.and_eq_true] at hB'
  refine wpIn_region_any hm (wpAnyIn_round r (by simpa using hnd) _ _ _ _ (wpAnyIn_of_quiet (Q := fun a' => ∀ w', (∃ n, w' = w.drewN n) → Q .normal a' w') hro (fun _ w' hw' h => h w' hw') _ _ _ _ (⟨1, rfl⟩ : ∃ n, ({ w with drawn := w.drawn + 1 } : World) = w.drewN n) ?_))
  have := wpAnyQIn_lex (F := F) (n := n) (C := fun w' => ∃ n, w' = w.drewN n) (md := .any) hB'.1 l 0 (Array.replicate l.toArray.size false) a (by simp) (by simpa using hB'.2) h
  simpa using this

/-! A region that makes memory, within a round: by the laws of the plain walk. -/
def NoOut (Q : Exit → Act → World → Prop) : Exit → Act → World → Prop
  | .outgrown, _, _ => False
  | e, a, w => Q e a w
theorem noOut_lets (Q : Exit → Act → World → Prop) : ¬ LetsOut (NoOut Q) := fun ⟨_, _, h⟩ => h
theorem oper_plain {n : Nat} {P : Program} {o : Oper} {a : Act} {w : World} {K K' : Act → World → Prop} {Q : Exit → Act → World → Prop} (r : Nat) (hnd : ∀ c, o.op ≠ .defer c) (hK : ∀ a w, K a w → K' a w) (h : Oper.wp P o a w K (NoOut Q)) : Oper.wpIn (Fence.wide.inRound r) n P o a w K' Q := by
  refine Oper.wpIn_mono hK (oper_round r hnd ?_)
  unfold Oper.wp at h
  unfold Oper.wpIn
  rw [Oper.semAt_eq _ _ _ hnd]
  refine ⟨fun _ _ => trivial, ?_⟩
  generalize (execOp a.eval o).run P w = res at h ⊢
  cases res with
  | ok x w' =>
    cases x <;> simp only [Oper.upon, Oper.uponIn] at h ⊢
    case value => exact h
    case skip => exact h
    case defer => exact h
    case enter f args =>
      refine ⟨fun h => absurd h (by decide), (callsIn_wide.2 h).mono fun e w'' he => ?_⟩
      cases e with
      | returned v => exact he
      | panicked c => exact he
      | outgrown => exact absurd he (noOut_lets Q)
    case row row args => exact ⟨fun h => absurd h (by decide), fun c cs _ => let ⟨v, w'', r, s⟩ := h c cs; ⟨v, w'', r, stepsIn_wide.2 s⟩⟩
  | halt x w' => cases x <;> simp only [Oper.upon, Oper.uponIn] at h ⊢ <;> exact h
theorem wpOp_plain {n : Nat} {P : Program} {ops : Array Oper} {Q : Exit → Act → World → Prop} {i : Nat} {K K' : Act → World → Prop} {a : Act} {w : World} (r : Nat) (hnd : noDefer ops.toList = true) (hK : ∀ a w, K a w → K' a w) (h : wpOp P ops (NoOut Q) i K a w) : wpOpIn (Fence.wide.inRound r) n P ops Q i K' a w := by
  unfold wpOp at h
  unfold wpOpIn
  cases ho : ops[i]? with
  | none => simp only [ho] at h; exact hK _ _ h
  | some o =>
    simp only [ho] at h ⊢
    have hd : ∀ c, o.op ≠ .defer c := fun c e => by
      have := List.all_eq_true.1 hnd o (by
        have hm := Array.mem_of_getElem? ho
        simpa using hm)
      rw [e] at this; cases this
    split
    · rename_i hw
      simp only [hw, if_true] at h
      rcases h with h | ⟨_, h⟩
      · exact oper_plain r hd hK h
      · exact absurd h (noOut_lets Q)
    · rename_i hw
      simp only [hw] at h
      exact ⟨fun _ _ => trivial, hK _ _ h⟩
theorem wpAny_plain {n : Nat} {P : Program} {md : Region.Mode} {ops : Array Oper} {Q : Exit → Act → World → Prop} (r : Nat) (hnd : noDefer ops.toList = true) : ∀ (fuel : Nat) (listed : Array Bool) (a : Act) (w : World),
    wpAny P md ops (NoOut Q) fuel listed a w → wpAnyIn (Fence.wide.inRound r) n P md ops Q fuel listed a w
  | 0, _, _, _, h => h
  | fuel + 1, _, _, _, h => ⟨h.1, fun i hi => wpOp_plain r hnd (fun a w => wpAny_plain r hnd fuel _ a w) (h.2 i hi)⟩
/-- The beginning of such a region: the laws 'wpAnyH_..' of the plain walk go on. -/
theorem wpIn_round_held {n r : Nat} {P : Program} {id : Nat} {ops : Array Oper} {Q : Exit → Act → World → Prop} {S : World → Prop} {a : Act} {w : World} (hm : P.follows .mixedOrders = true) (hnd : noDefer ops.toList = true) (hS : S w.drew)
    (h : S w.drew → wpAnyH P .any ops (NoOut Q) S ops.size (Array.replicate ops.size false) a w.drew) : (Code.region id ops true).wpIn (Fence.wide.inRound r) n P Q a w :=
  wpIn_region_any hm (wpAny_plain r hnd _ _ _ _ (wpAny_of_held _ _ _ _ (h hS)))
end Go.Proofs.YtckpojkbcbogbaaDoor
namespace Go.Proofs.YtckpojkbcbogbaaDoor
open Go Go.RowKit Go.Shelf Go.Proofs
attribute [local go_sem] Oper.semAt_some

theorem bmixed : Tryd.prog.follows .mixedOrders = true := by kernel_rfl
theorem bpiece_le (c : UInt8) : ∀ (q : Bs) (l : Bs), l ∈ splitL c q → l.length ≤ q.length := by
  intro q l hl
  have h1 : mkB l ∈ piecesB c (mkB q) := by unfold piecesB; rw [mkB_data]; exact List.mem_map.2 ⟨l, hl, rfl⟩
  have h2 := piecesB_small c (mkB q) _ h1
  rwa [mkB_size, mkB_size] at h2
/-- What read answers. -/
def BReadPost (R m : Nat) (dir s : ByteArray) (w : World) (e : Ending) (w' : World) : Prop := ∃ n L K, e = .returned (.int .i64 n) ∧ RdO w.heap.size R m dir L K w' ∧ TurnR w.heap.size R m w w' ∧
      ((n ≠ 0 ∧ parseT dir.data.toList (splitL 10 s.data.toList) = .error n) ∨ (n = 0 ∧ parseT dir.data.toList (splitL 10 s.data.toList) = .ok (tgsX L) ∧ K = (tgsX L).map (·.n)))
theorem StrsT.lower2 {base base' : Nat} {w : World} {A : Option Addr} {l : List Bs} (h : StrsT base w A l) (hb : base' ≤ base) : StrsT base' w A l := fun hn => by
  obtain ⟨g, o, cur, e, h1, h2⟩ := h hn
  exact ⟨g, o, cur, e, Nat.le_trans hb h1, h2⟩
theorem grownBy_cellR (W : World) (b o : Nat) (v : Value) : W.grownBy (W.setCell ⟨b, o, none⟩ v) (some b) :=
  ⟨rfl, rfl, rfl, by simp [World.setCell], fun j _ hne => heap_setCell_other W ⟨b, o, none⟩ j v (fun e => hne (by rw [e]))⟩
theorem linesT_app (dir : Bs) (a b : List (List Bs)) (r : Except Int (List Tg)) : linesT dir (a ++ b) r = linesT dir b (linesT dir a r) := by unfold linesT; rw [List.foldl_append]
theorem readTo_err {dir : Bs} {s : ByteArray} {k j : Nat} {n : Int} (h : readTo dir s k = .error n) (hj : k ≤ j) : readTo dir s j = .error n := by
  unfold readTo at h ⊢
  have e : (splitL 10 s.data.toList).take j = (splitL 10 s.data.toList).take k ++ ((splitL 10 s.data.toList).take j).drop k := by
    conv => lhs; rw [← List.take_append_drop k ((splitL 10 s.data.toList).take j)]
    rw [List.take_take, Nat.min_eq_left hj]
  rw [e, List.map_append, linesT_app, h, linesT_err]
theorem readTo_all {dir : Bs} {s : ByteArray} {k : Nat} (hk : (splitL 10 s.data.toList).length ≤ k) : readTo dir s k = parseT dir (splitL 10 s.data.toList) := by
  unfold readTo parseT
  rw [List.take_of_length_le hk]
theorem readTo_bad {dir : Bs} {s : ByteArray} {k : Nat} {n : Int} (h : readTo dir s k = .error n) : parseT dir (splitL 10 s.data.toList) = .error n := by
  rw [← readTo_all (k := k + (splitL 10 s.data.toList).length) (by omega)]
  exact readTo_err h (by omega)
theorem bd_drewN {w w' : World} {B : Nat} (h : Below B w w') (q : Nat) : Below B w (w'.drewN q) := ⟨h.os, h.tape, h.output, h.size, h.block⟩
theorem RdO.lower {base base' R m : Nat} {dir : ByteArray} {L : List TX} {K : List Bs} {W : World} (h : RdO base R m dir L K W) (hb : base' ≤ base) : RdO base' R m dir L K W := by
  obtain ⟨A, c, h1, h2⟩ := h.box
  refine ⟨⟨A, c, h1, World.ownsRow.mono h2 hb⟩, fun x hx => ?_, fun M x e => ?_, h.names⟩
  · have t := h.own x hx
    exact ⟨t.s.lower2 hb, t.sc, t.cm, t.d.lower2 hb, t.dc, t.bm, t.lt⟩
  · obtain ⟨t, a⟩ := h.last M x e
    exact ⟨⟨World.ownsRow.mono t.s hb, World.ownsRow.mono t.d hb, t.ne⟩, a⟩
theorem max_turn {base R m : Nat} {w W : World} {b c d : Value} {t : TypeId} (h : MaxOk w) (hT : TurnR base R m w W) (hb : w.heap.size ≤ base) (hR : w.heap[R]? = some (.cells #[.pointer none, b, c, d] t (0, 0))) (hM : ∃ es k, w.heap[m]? = some (.map es k)) : MaxOk W := by
  obtain ⟨h0, h1, v, hv⟩ := h
  refine ⟨Nat.lt_of_lt_of_le h0 hT.size, Nat.lt_of_lt_of_le h1 hT.size, v, ?_⟩
  refine (World.cell?_of_block (a := ⟨0, 0, none⟩) (hT.low _ (Nat.lt_of_lt_of_le h1 hb) h1 (fun e => ?_) (fun e => ?_))).trans hv
  · have := cell_of_row w R 0 _ _ _ hR
    rw [← e, hv] at this
    cases this
  · obtain ⟨es, k, hm⟩ := hM
    rw [← e] at hm
    unfold World.cell? at hv
    simp [hm] at hv
/-- The next line. -/
theorem read_next {R m k : Nat} {dir s : ByteArray} {w W W' : World} {L' : List TX} (hR : R < w.heap.size) (hmm : m < w.heap.size) (hWs : w.heap.size + 6 ≤ W.heap.size)
    (y1 : Boxed W (w.heap.size + 2) 102 (.map (some (w.heap.size + 1)))) (y2 : W.heap[w.heap.size + 1]? = some (.map (actsE R) 3)) (y3 : Boxed W w.heap.size 27 (.int .i64 0)) (hT : TurnR w.heap.size R m w W)
    (hT' : TurnR (w.heap.size + 6) R m W W') (hO : RdO (w.heap.size + 6) R m dir L' ((tgsX L').map (·.n)) W') (hst : readTo dir.data.toList s (k + 1) = .ok (tgsX L')) (hk : BdK (k + 1) (tgsX L')) :
    KeepsFrom (w.heap.size + 6) W W' ∧ KeepsB (KeepThree (w.heap.size + 3) (w.heap.size + 4) (w.heap.size + 5)) W W' ∧ ReadI R m dir s w (k + 1) W' := by
  refine ⟨hT'.from (by omega) (by omega), ⟨hT'.size, ?_⟩, (hT'.low _ (by omega) (by omega) (by omega) (by omega)).trans y1, (hT'.low _ (by omega) (by omega) (by omega) (by omega)).trans y2, (hT'.low _ (by omega) (by omega) (by omega) (by omega)).trans y3, ⟨L', hst, hO, hk⟩, hT.trans (hT'.rebase (by omega))⟩
  rintro j (rfl | rfl | rfl) hj <;> exact hT'.low _ (by omega) (by omega) (by omega) (by omega)
/-- A line that may not be: the error is stored. -/
theorem read_stop {R m k : Nat} {dir s : ByteArray} {w W W' : World} {L' : List TX} {K' : List Bs} {n : Int} {c : Code} (hR : R < w.heap.size) (hmm : m < w.heap.size) (hWs : w.heap.size + 6 ≤ W.heap.size)
    (y3 : Boxed W w.heap.size 27 (.int .i64 0)) (hT : TurnR w.heap.size R m w W)
    (hT' : TurnR (w.heap.size + 6) R m W W') (hO : RdO (w.heap.size + 6) R m dir L' K' W') (hst : readTo dir.data.toList s k = .error n) (hn : n ≠ 0) (hc : c = .ret) :
    KeepsFrom (w.heap.size + 6) W (W'.setCell ⟨w.heap.size, 0, none⟩ (.int .i64 n)) ∧ ReadX R m dir s w c k (W'.setCell ⟨w.heap.size, 0, none⟩ (.int .i64 n)) := by
  have y3' : Boxed W' w.heap.size 27 (.int .i64 0) := (hT'.low _ (by omega) (by omega) (by omega) (by omega)).trans y3
  have ho : ∀ j, j ≠ w.heap.size → (W'.setCell ⟨w.heap.size, 0, none⟩ (.int .i64 n)).heap[j]? = W'.heap[j]? := fun j hj => heap_setCell_other W' ⟨w.heap.size, 0, none⟩ j _ hj
  have hsz : (W'.setCell ⟨w.heap.size, 0, none⟩ (.int .i64 n)).heap.size = W'.heap.size := by simp [World.setCell]
  have hkf := hT'.from (B := w.heap.size + 6) (by omega) (by omega)
  refine ⟨⟨by rw [hsz]; exact hkf.1, fun j o hj h1 h2 => (ho j (by omega)).trans (hkf.2 j o hj h1 h2)⟩, hc, n, L', K', ⟨readTo_err hst (Nat.le_succ _), hn⟩, ?_, y3'.set _, ?_⟩
  · exact hO.kept2 (by rw [hsz]; exact Nat.le_refl _) (fun o h => (ho R (by omega)).trans h) (fun o h => (ho m (by omega)).trans h) (fun j cur t hj h => (ho j (by omega)).trans h)
  · exact (hT.trans (hT'.rebase (by omega))).grown (grownBy_cellR _ w.heap.size 0 _) (Nat.le_refl _) (fun r e => by simp only [Option.some.injEq] at e; omega)

set_option maxRecDepth 100000 in
set_option maxHeartbeats 16000000 in
theorem bread_any (R m : Nat) (dir s : ByteArray) (w : World) (h : w.heap[R]? = some (.cells #[.pointer none, .string dir, .slice none 0 0, .map (some m)] 70 (0, 0))) (hn : NamesAt w m 0 []) (hR : R < w.heap.size) (hmm : m < w.heap.size) (hRm : R ≠ m) (hd : dir.size ≤ 100000) (hs : s.size ≤ 16384) (hm : MaxOk w) :
    Calls Tryd.prog 38 #[.pointer (some ⟨R, 0, none⟩), .string s] w (BReadPost R m dir s w) := by
  obtain ⟨w0, hw0⟩ : ∃ W, w.alloc (.cells #[.int .i64 0] 27) = W := ⟨_, rfl⟩
  have hz0 : w0.heap.size = w.heap.size + 1 := by rw [← hw0]; simp
  obtain ⟨w1, w2, w3, r1, r2, r3, hmp, hb3, hz3⟩ := acts_made (P := Tryd.prog) (w := w0) R Tryd.underlying102 Tryd.underlying9
  rw [hz0] at r1 r2 r3 hmp hb3 hz3
  simp only [actOf, kTarget, kSrc, kDep] at r1 r2 r3
  have HMP := Lib.hid hmp
  have HB3 := Lib.hid hb3
  have hb0 : Below w.heap.size w w0 := by rw [← hw0]; exact (Below.refl _ _).alloc (Nat.le_refl _) _
  have hx0 : Boxed w0 w.heap.size 27 (.int .i64 0) := by rw [← hw0]; exact Boxed.new w _ _
  have HB0 := Lib.hid hb0
  have HX0 := Lib.hid hx0
  have hmk := run_makeMap_plain (P := Tryd.prog) w0 102
  rw [hz0] at hmk
  clear hmp hb3 hb0 hx0
  refine (callsIn_wide (n := 777)).1 ?_
  generalize 777 = n
  refine callsIn_of_wp_marks Tryd.func38 rfl trivial ?_ rfl
  simp only [Tryd.ntmps38, List.size_toArray, List.length_cons, List.length_nil, Nat.reduceAdd, Nat.reduceSub, Array.replicate_succ, Array.replicate_zero, List.push_toArray, List.append_toArray, List.nil_append, List.cons_append]
  gi_wp2_with fail
  refine wpIn_scope_wide ?_
  gi_wp2_with (first | (refine wpListIn_insert rfl _ _ _ _ rfl _ _ _ rfl rfl rfl r1 ?_) | (refine wpListIn_insert rfl _ _ _ _ rfl _ _ _ rfl rfl rfl r2 ?_) | (refine wpListIn_insert rfl _ _ _ _ rfl _ _ _ rfl rfl rfl r3 ?_))
  obtain ⟨W4, hW4⟩ : ∃ W, w3.alloc (.cells #[.map (some (w.heap.size + 1))] 102) = W := ⟨_, rfl⟩
  have hz4 : W4.heap.size = w.heap.size + 3 := by rw [← hW4, World.size_alloc, hz3]
  have hb4 : Below w.heap.size w W4 := by rw [← hW4]; exact (HB0.out.trans (HB3.out.mono (by omega))).alloc (by omega) _
  have x4 : Boxed W4 (w.heap.size + 2) 102 (.map (some (w.heap.size + 1))) := by rw [← hW4]; have := Boxed.new w3 102 (.map (some (w.heap.size + 1))); rw [hz3] at this; exact this
  have m4 : W4.heap[w.heap.size + 1]? = some (.map (actsE R) 3) := by rw [← hW4, Below.heap_alloc _ _ _ (by omega)]; exact HMP.out
  have e3 : Boxed w3 w.heap.size 27 (.int .i64 0) := (HB3.out.block _ (by omega)).trans HX0.out
  have e4 : Boxed W4 w.heap.size 27 (.int .i64 0) := by rw [← hW4]; exact e3.alloc _
  rw [hW4]
  clear hW4 hz3 hz0 r1 r2 r3 hmk hw0
  refine wpIn_label ?_
  gi_wp2_with fail
  refine wide_call (splitSeq_any s ⟨#[10]⟩ _) ?_
  rintro e w' ⟨rfl, rfl⟩
  gi_wp2_with fail
  obtain ⟨W0, hW0⟩ : ∃ W, ((W4.alloc (.cells #[.string s] 9)).alloc (.cells #[.string ⟨#[10]⟩] 9)).alloc (.cells #[.int .i64 0] 3) = W := ⟨_, rfl⟩
  have hs0 : W0.heap.size = w.heap.size + 6 := by rw [← hW0]; simp [hz4]
  have hb0 : Below W4.heap.size W4 W0 := by rw [← hW0]; exact (((Below.refl _ W4).alloc (Nat.le_refl _) _).alloc (by simp) _).alloc (by simp; omega) _
  have x3 : Boxed W0 (w.heap.size + 3) 9 (.string s) := by rw [← hW0]; have := Boxed.new W4 9 (.string s); rw [hz4] at this; exact (this.alloc _).alloc _
  have x5 : Boxed W0 (w.heap.size + 4) 9 (.string ⟨#[10]⟩) := by
    rw [← hW0]; have := Boxed.new (W4.alloc (.cells #[.string s] 9)) 9 (.string ⟨#[10]⟩); rw [World.size_alloc, hz4] at this; exact this.alloc _
  have x6 : Boxed W0 (w.heap.size + 5) 3 (.int .i64 0) := by
    rw [← hW0]; have := Boxed.new ((W4.alloc (.cells #[.string s] 9)).alloc (.cells #[.string ⟨#[10]⟩] 9)) 3 (.int .i64 0); simp only [World.size_alloc, hz4] at this; exact this
  have x40 : Boxed W0 (w.heap.size + 2) 102 (.map (some (w.heap.size + 1))) := (hb0.block _ (by omega)).trans x4
  have m40 := (hb0.block _ (by omega)).trans m4
  have e40 : Boxed W0 w.heap.size 27 (.int .i64 0) := (hb0.block _ (by omega)).trans e4
  have hbw := hb4.trans (hb0.mono (by omega))
  have hRd : RdO (w.heap.size + 6) R m dir [] [] W0 := ⟨⟨none, 0, by rw [hbw.block R hR]; simpa [endA] using h, World.ownsRow_nil _ _ _ _⟩, (fun x hx => by cases hx), (fun M x e => by simp at e), hn.keep fun o ho => (hbw.block m hmm).trans ho⟩
  have hT0 : TurnR w.heap.size R m w W0 := TurnR.of_below hbw
  rw [hW0]
  clear hW0 hb0 hb4 x4 m4 e4 hz4
  have hpl : (piecesB 10 s).length = (splitL 10 s.data.toList).length := by unfold piecesB; simp
  have hsl := splitL_length 10 s.data.toList
  have hln : s.data.toList.length = s.size := Array.length_toList
  refine wpIn_rangeList rfl (fun h => absurd h (by decide)) (gf := 103) (lb := #[.pointer (some ⟨w.heap.size + 3 + 1, 0, none⟩), .pointer (some ⟨w.heap.size + 3, 0, none⟩), .pointer (some ⟨w.heap.size + 3 + 2, 0, none⟩)]) rfl trivial (enters_of Tryd.func103 (by kernel_rfl) rfl)
    (split_list _ (w.heap.size + 3) (w.heap.size + 4) (w.heap.size + 5) 10 s (by omega) W0 (by omega) (by omega) x3 x5 x6) KeepsB.trans (keepsB_b (by rintro k (rfl | rfl | rfl) <;> omega)) (by rintro r rfl; omega) (Below.refl _ _) (fun _ => rfl)
    (fun k W => ReadI R m dir s w k W) (fun c k W => ReadX R m dir s w c k W)
    (readI_own hs0 hR hmm) (fun c => readX_own hs0 hR hmm)
    ⟨x40, m40, e40, ⟨[], rfl, hRd, ⟨Nat.zero_le _, fun x hx => by cases hx⟩⟩, hT0⟩
    (fun x a' _ => a' = { tmps := #[.pointer (some ⟨R, 0, none⟩), .string s, undef, undef, .pointer (some ⟨w.heap.size, 0, none⟩), .pointer (some ⟨w.heap.size + 1 + 1, 0, none⟩), .string x, undef, undef, undef, undef, .map (some (w.heap.size + 1)), .pointer (some ⟨R, 0, none⟩), .func (.func 61) #[.pointer (some ⟨R, 0, none⟩)] #[], .pointer (some ⟨R, 0, none⟩), .func (.func 62) #[.pointer (some ⟨R, 0, none⟩)] #[], .pointer (some ⟨R, 0, none⟩), .func (.func 63) #[.pointer (some ⟨R, 0, none⟩)] #[], .map (some (w.heap.size + 1)), .string s, .func (.func 103) #[] #[.pointer (some ⟨w.heap.size + 3 + 1, 0, none⟩), .pointer (some ⟨w.heap.size + 3, 0, none⟩), .pointer (some ⟨w.heap.size + 3 + 2, 0, none⟩)], .string x, undef, undef, undef, undef, undef, undef, undef, undef, undef, undef, undef, undef, undef, undef, undef, undef, undef, undef, undef, undef, undef, undef, undef, undef, undef], defers := [] }) (fun _ _ _ _ _ _ hs _ _ => hs) ?assign ?body ?done ?stop
  case assign =>
    intro l k x W K hi hK
    gi_wp2
    exact hK _ _ (KeepsFrom.refl _ _) (KeepsB.refl _ _) hi rfl
  case body =>
    rintro l k x a' W hl ⟨rl, hrl⟩ ⟨y1, y2, y3, ⟨L, hst, hO, hLk⟩, hT⟩ rfl hx
    have hWs : w.heap.size + 6 ≤ W.heap.size := by have := (Array.getElem?_eq_some_iff.1 hrl).1; omega
    clear hrl
    rw [hs0]
    have hxs : x.size ≤ 16384 := Nat.le_trans (piecesB_small 10 s x (List.mem_of_getElem? hx)) hs
    have hkl : k < (piecesB 10 s).length := (List.getElem?_eq_some_iff.1 hx).1
    have hk16 : k ≤ 16384 := by omega
    have hnx := readTo_step hx hst.out
    have hmW : MaxOk W := max_turn hm hT (Nat.le_refl _) h hn.map
    have hW := bwordsOf_any x W (by omega) hmW
    have hwl : ∀ p ∈ wordsL x.data.toList, p.length ≤ 16384 := fun p hp => Nat.le_trans (Nat.le_trans (bpiece_le 32 _ _ (List.mem_filter.1 hp).1) (cutT_le _)) (by rw [Array.length_toList]; exact hxs)
    obtain ⟨ws, hws⟩ : ∃ ws, wordsL x.data.toList = ws := ⟨_, rfl⟩
    rw [hws] at hW hnx hwl
    have hLL : L.length ≤ 16384 := by have := hLk.1; unfold tgsX at this; rw [List.length_map] at this; omega
    have hLT : ∀ y ∈ L, y.s.length ≤ 100000 ∧ y.d.length ≤ 100000 := fun y hy => by
      have := hLk.2 y.tg (List.mem_map.2 ⟨y, hy, rfl⟩)
      exact ⟨by have := this.1; show y.s.length ≤ _; have e : y.tg.s.length = y.s.length := by simp [TX.tg]
                omega, by have := this.2; have e : y.tg.d.length = y.d.length := by simp [TX.tg]
                          omega⟩
    have HW := Lib.hid hW
    have HNX := Lib.hid hnx
    have HWL := Lib.hid hwl
    have HX := Lib.hid hx
    have HO := Lib.hid hO
    have HLK := Lib.hid hLk
    have HLT := Lib.hid hLT
    have HT := Lib.hid hT
    have HMW := Lib.hid hmW
    have Y1 := Lib.hid y1
    have Y2 := Lib.hid y2
    have Y3 := Lib.hid y3
    clear hws hW hnx hwl hx hO hLk hLT hT hmW y1 y2 y3 hst
    gi_wp2_with fail
    refine wide_call_in HW.out ?_
    rintro e W7 ⟨A, c, rfl, hwt, hwc, hwm, hb7⟩
    have HB7 := Lib.hid hb7
    have HO7 := Lib.hid (HO.out.below hb7)
    have HT7 := Lib.hid (TurnR.of_below (base := w.heap.size + 6) (R := R) (m := m) hb7)
    have z1 : Boxed W7 (w.heap.size + 2) 102 (.map (some (w.heap.size + 1))) := (hb7.block _ (by omega)).trans Y1.out
    have z2 := (hb7.block _ (by omega)).trans Y2.out
    have z3 : Boxed W7 w.heap.size 27 (.int .i64 0) := (hb7.block _ (by omega)).trans Y3.out
    have hs7 := hb7.size
    have Z1 := Lib.hid z1
    have Z2 := Lib.hid z2
    have Z3 := Lib.hid z3
    have hmx7 := HMW.out.below hb7
    have HMX7 := Lib.hid hmx7
    have e3 := z3.cell
    have f3 := z3.frozen
    have HWT := Lib.hid hwt
    clear z1 z2 z3 hb7 hmx7 hwt
    match ws, hwc, HWT, HWL, HNX with
    | [], _, _, _, HNX =>
      have HOK : Hid (readTo dir.data.toList s (k + 1) = .ok (tgsX L)) := HNX
      gi_wp2_with fail
      exact read_next hR hmm hWs Y1.out Y2.out Y3.out HT.out HT7.out HO7.out HOK.out (HLK.out.mono (Nat.le_succ _))
    | [p], hwc, HWT, HWL, HNX =>
      have HERR : Hid (readTo dir.data.toList s (k + 1) = .error 11) := HNX
      gi_wp2_with fail
      exact read_stop hR hmm hWs Y3.out HT.out HT7.out HO7.out HERR.out (by decide) rfl
    | p :: q :: r :: ps, hwc, HWT, HWL, HNX =>
      have HERR : Hid (readTo dir.data.toList s (k + 1) = .error 11) := HNX
      obtain ⟨N, hN⟩ : ∃ N, (p :: q :: r :: ps).length = N := ⟨_, rfl⟩
      rw [hN]
      have hN3 : 2 < N := by rw [← hN]; simp
      have n0 : ((N : Int) == 0) = false := by rw [beq_eq_false_iff_ne]; omega
      have n2 : ((N : Int) == 2) = false := by rw [beq_eq_false_iff_ne]; omega
      clear hN
      gi_wp2_with fail
      exact read_stop hR hmm hWs Y3.out HT.out HT7.out HO7.out HERR.out (by decide) rfl
    | [p, q], hwc, HWT, HWL, HNX =>
      obtain ⟨g, o, rfl, hc⟩ := HWT.out (by simp)
      have c0 := hc 0 p rfl
      have c1 := hc 1 q rfl
      obtain ⟨x0, hx0⟩ : ∃ x, mkB p = x := ⟨_, rfl⟩
      obtain ⟨x1, hx1⟩ : ∃ x, mkB q = x := ⟨_, rfl⟩
      rw [hx0, Nat.add_zero] at c0
      rw [hx1] at c1
      have d0 : x0.data.toList = p := by rw [← hx0, mkB_data]
      have d1 : x1.data.toList = q := by rw [← hx1, mkB_data]
      have hx1s : x1.size ≤ 100000 := by rw [← hx1, mkB_size]; have := HWL.out q (by simp); omega
      have HACT := Lib.hid (fun nq => act_any (w.heap.size + 6) R m dir L ((tgsX L).map (·.n)) x0 x1 (W7.drewN nq) (HO7.out.below (bd_drewN (Below.refl _ _) nq)) rfl (by omega) HLT.out (by omega) (by omega) hRm (by show _ ≤ W7.heap.size; omega) hd hx1s (HMX7.out.below (bd_drewN (Below.refl _ _) nq)))
      have HL2 := Lib.hid (show readTo dir.data.toList s (k + 1) = actT dir.data.toList (tgsX L) x0.data.toList x1.data.toList by rw [d0, d1]; exact HNX.out)
      clear hc hx0 hx1 d0 d1
      rcases HACT.out 0 with ⟨i, fn, hfn, hf, _⟩ | ⟨hf, herr⟩
      · have hlk := fun nq => run_lookup_hit (P := Tryd.prog) (w := W7.drewN nq) (mty := 102) x0 Tryd.underlying102 Tryd.underlying9 (show (W7.drewN nq).heap[w.heap.size + 1]? = _ from Z2.out) hf
        have HF := Lib.hid hf
        clear hf
        have zc := Z1.out.cell
        simp only [actOf] at hlk
        rcases hfn with rfl | rfl | rfl
        · have ei := enters_of (P := Tryd.prog) Tryd.func61 (by kernel_rfl) rfl
          gi_wp2_with fail
          refine wpIn_round_quiet_lit rfl bmixed (by kernel_rfl) (by kernel_rfl) ?_
          repeat (gi_big_quiet_step (fail))
          refine wpQuietIn_nil ?_
          intro _ hw2
          obtain ⟨nq, hw3⟩ := hw2
          subst hw3
          have HC := Lib.hid (show Calls Tryd.prog 61 #[.pointer (some ⟨R, 0, none⟩), .string x1] (W7.drewN nq) (ActPost (w.heap.size + 6) R m dir (actT dir.data.toList (tgsX L) x0.data.toList x1.data.toList) (W7.drewN nq)) from by
            rcases HACT.out nq with ⟨i2, fn2, _, hf2, hc2⟩ | ⟨hf2, _⟩
            · rw [HF.out] at hf2
              simp only [Option.some.injEq, Prod.mk.injEq, actOf, Value.func.injEq, Fn.func.injEq, and_true] at hf2
              obtain ⟨_, rfl⟩ := hf2
              exact hc2
            · rw [HF.out] at hf2; cases hf2)
          clear hlk zc
          gi_wp2_with fail
          refine wide_call_in HC.out ?_
          rintro e W8 ⟨n1, L', K', rfl, hO8, hT8, hr⟩
          have HT8 := Lib.hid (HT7.out.trans ((TurnR.of_below (bd_drewN (Below.refl _ _) nq)).trans hT8))
          have HO8 := Lib.hid hO8
          clear hO8 hT8 HC
          rcases hr with ⟨hn0, he⟩ | ⟨rfl, hok, rfl⟩
          · have HERR : Hid (readTo dir.data.toList s (k + 1) = .error n1) := by unfold Hid; rw [HL2.out, he]
            have b0 : (n1 == 0) = false := beq_eq_false_iff_ne.2 hn0
            have b1 : (n1 != 0) = true := bne_iff_ne.2 hn0
            have y8 : Boxed W8 w.heap.size 27 (.int .i64 0) := (HT8.out.low _ (by omega) (by omega) (by omega) (by omega)).trans Y3.out
            have e8 := y8.cell
            have f8 := y8.frozen
            have HN0 := Lib.hid hn0
            clear he y8 hn0 e3 f3
            gi_wp2_with fail
            exact read_stop hR hmm hWs Y3.out HT.out HT8.out HO8.out HERR.out HN0.out rfl
          · have HOK : Hid (readTo dir.data.toList s (k + 1) = .ok (tgsX L')) := by unfold Hid; rw [HL2.out, hok]
            clear hok
            gi_wp2_with fail
            exact read_next hR hmm hWs Y1.out Y2.out Y3.out HT.out HT8.out HO8.out HOK.out (HLK.out.line (HNX.out.symm.trans HOK.out))
        · have ei := enters_of (P := Tryd.prog) Tryd.func62 (by kernel_rfl) rfl
          gi_wp2_with fail
          refine wpIn_round_quiet_lit rfl bmixed (by kernel_rfl) (by kernel_rfl) ?_
          repeat (gi_big_quiet_step (fail))
          refine wpQuietIn_nil ?_
          intro _ hw2
          obtain ⟨nq, hw3⟩ := hw2
          subst hw3
          have HC := Lib.hid (show Calls Tryd.prog 62 #[.pointer (some ⟨R, 0, none⟩), .string x1] (W7.drewN nq) (ActPost (w.heap.size + 6) R m dir (actT dir.data.toList (tgsX L) x0.data.toList x1.data.toList) (W7.drewN nq)) from by
            rcases HACT.out nq with ⟨i2, fn2, _, hf2, hc2⟩ | ⟨hf2, _⟩
            · rw [HF.out] at hf2
              simp only [Option.some.injEq, Prod.mk.injEq, actOf, Value.func.injEq, Fn.func.injEq, and_true] at hf2
              obtain ⟨_, rfl⟩ := hf2
              exact hc2
            · rw [HF.out] at hf2; cases hf2)
          clear hlk zc
          gi_wp2_with fail
          refine wide_call_in HC.out ?_
          rintro e W8 ⟨n1, L', K', rfl, hO8, hT8, hr⟩
          have HT8 := Lib.hid (HT7.out.trans ((TurnR.of_below (bd_drewN (Below.refl _ _) nq)).trans hT8))
          have HO8 := Lib.hid hO8
          clear hO8 hT8 HC
          rcases hr with ⟨hn0, he⟩ | ⟨rfl, hok, rfl⟩
          · have HERR : Hid (readTo dir.data.toList s (k + 1) = .error n1) := by unfold Hid; rw [HL2.out, he]
            have b0 : (n1 == 0) = false := beq_eq_false_iff_ne.2 hn0
            have b1 : (n1 != 0) = true := bne_iff_ne.2 hn0
            have y8 : Boxed W8 w.heap.size 27 (.int .i64 0) := (HT8.out.low _ (by omega) (by omega) (by omega) (by omega)).trans Y3.out
            have e8 := y8.cell
            have f8 := y8.frozen
            have HN0 := Lib.hid hn0
            clear he y8 hn0 e3 f3
            gi_wp2_with fail
            exact read_stop hR hmm hWs Y3.out HT.out HT8.out HO8.out HERR.out HN0.out rfl
          · have HOK : Hid (readTo dir.data.toList s (k + 1) = .ok (tgsX L')) := by unfold Hid; rw [HL2.out, hok]
            clear hok
            gi_wp2_with fail
            exact read_next hR hmm hWs Y1.out Y2.out Y3.out HT.out HT8.out HO8.out HOK.out (HLK.out.line (HNX.out.symm.trans HOK.out))
        · have ei := enters_of (P := Tryd.prog) Tryd.func63 (by kernel_rfl) rfl
          gi_wp2_with fail
          refine wpIn_round_quiet_lit rfl bmixed (by kernel_rfl) (by kernel_rfl) ?_
          repeat (gi_big_quiet_step (fail))
          refine wpQuietIn_nil ?_
          intro _ hw2
          obtain ⟨nq, hw3⟩ := hw2
          subst hw3
          have HC := Lib.hid (show Calls Tryd.prog 63 #[.pointer (some ⟨R, 0, none⟩), .string x1] (W7.drewN nq) (ActPost (w.heap.size + 6) R m dir (actT dir.data.toList (tgsX L) x0.data.toList x1.data.toList) (W7.drewN nq)) from by
            rcases HACT.out nq with ⟨i2, fn2, _, hf2, hc2⟩ | ⟨hf2, _⟩
            · rw [HF.out] at hf2
              simp only [Option.some.injEq, Prod.mk.injEq, actOf, Value.func.injEq, Fn.func.injEq, and_true] at hf2
              obtain ⟨_, rfl⟩ := hf2
              exact hc2
            · rw [HF.out] at hf2; cases hf2)
          clear hlk zc
          gi_wp2_with fail
          refine wide_call_in HC.out ?_
          rintro e W8 ⟨n1, L', K', rfl, hO8, hT8, hr⟩
          have HT8 := Lib.hid (HT7.out.trans ((TurnR.of_below (bd_drewN (Below.refl _ _) nq)).trans hT8))
          have HO8 := Lib.hid hO8
          clear hO8 hT8 HC
          rcases hr with ⟨hn0, he⟩ | ⟨rfl, hok, rfl⟩
          · have HERR : Hid (readTo dir.data.toList s (k + 1) = .error n1) := by unfold Hid; rw [HL2.out, he]
            have b0 : (n1 == 0) = false := beq_eq_false_iff_ne.2 hn0
            have b1 : (n1 != 0) = true := bne_iff_ne.2 hn0
            have y8 : Boxed W8 w.heap.size 27 (.int .i64 0) := (HT8.out.low _ (by omega) (by omega) (by omega) (by omega)).trans Y3.out
            have e8 := y8.cell
            have f8 := y8.frozen
            have HN0 := Lib.hid hn0
            clear he y8 hn0 e3 f3
            gi_wp2_with fail
            exact read_stop hR hmm hWs Y3.out HT.out HT8.out HO8.out HERR.out HN0.out rfl
          · have HOK : Hid (readTo dir.data.toList s (k + 1) = .ok (tgsX L')) := by unfold Hid; rw [HL2.out, hok]
            clear hok
            gi_wp2_with fail
            exact read_next hR hmm hWs Y1.out Y2.out Y3.out HT.out HT8.out HO8.out HOK.out (HLK.out.line (HNX.out.symm.trans HOK.out))
      · have HERR : Hid (readTo dir.data.toList s (k + 1) = .error 11) := by unfold Hid; rw [HL2.out, herr]
        have hlk := fun nq => run_lookup_miss (P := Tryd.prog) (w := W7.drewN nq) (mty := 102) (z := .nilFunc) x0 Tryd.underlying102 Tryd.underlying9 (by kernel_rfl) (show (W7.drewN nq).heap[w.heap.size + 1]? = _ from Z2.out) hf
        have zc := Z1.out.cell
        clear hf herr
        gi_wp2_with fail
        refine wpIn_round_quiet_lit rfl bmixed (by kernel_rfl) (by kernel_rfl) ?_
        repeat (gi_big_quiet_step (fail))
        refine wpQuietIn_nil ?_
        intro _ hw2
        obtain ⟨nq, hw3⟩ := hw2
        subst hw3
        gi_wp2_with fail
        exact read_stop hR hmm hWs Y3.out HT.out (HT7.out.trans (TurnR.of_below (bd_drewN (Below.refl _ _) _))) (HO7.out.below (bd_drewN (Below.refl _ _) _)) HERR.out (by decide) rfl
  case done =>
    rintro D W hD ⟨y1, y2, y3, ⟨L, hst, hO, hLk⟩, hT⟩ hK
    have hpv : parseT dir.data.toList (splitL 10 s.data.toList) = .ok (tgsX L) := by rw [← readTo_all (k := (piecesB 10 s).length) (by omega)]; exact hst.out
    have HPV := Lib.hid hpv
    have HK := Lib.hid hK
    have HO := Lib.hid hO
    have HT := Lib.hid hT
    have HY3 := Lib.hid y3
    have c3 := y3.cell
    have f3 := y3.frozen
    clear hst hpv hO hT y1 y2 y3 hK hLk
    gi_wp2_with fail
    rw [Exit.noGoto_ret]
    have hD2 : D ≠ w.heap.size := by omega
    have ho : ∀ j, j ≠ w.heap.size → (W.setCell ⟨w.heap.size, 0, none⟩ (.int .i64 0)).heap[j]? = W.heap[j]? := fun j hj => heap_setCell_other W ⟨w.heap.size, 0, none⟩ j _ hj
    have hsz : (W.setCell ⟨w.heap.size, 0, none⟩ (.int .i64 0)).heap.size = W.heap.size := by simp [World.setCell]
    have y4 : Boxed (W.setCell ⟨w.heap.size, 0, none⟩ (.int .i64 0)) w.heap.size 27 (.int .i64 0) := HY3.out.set _
    have hO4 := HO.out.kept2 (W' := W.setCell ⟨w.heap.size, 0, none⟩ (.int .i64 0)) (by rw [hsz]; exact Nat.le_refl _) (fun o h => (ho R (by omega)).trans h) (fun o h => (ho m (by omega)).trans h) (fun j cur t hj h => (ho j (by omega)).trans h)
    have hT4 := HT.out.grown (grownBy_cellR W w.heap.size 0 (.int .i64 0)) (Nat.le_refl _) (fun r e => by simp only [Option.some.injEq] at e; omega)
    have dK : (W.setCell ⟨w.heap.size, 0, none⟩ (.int .i64 0)).heap[D]? = some (.deferred (some [])) := (ho D hD2).trans HK.out
    generalize W.setCell ⟨w.heap.size, 0, none⟩ (.int .i64 0) = V at *
    have e2 : Boxed (V.putObj D (.deferred none)) w.heap.size 27 (.int .i64 0) := (World.putObj_heap_other hD2.symm).trans y4
    have c7 := e2.cell
    have hO5 := hO4.kept2 (W' := V.putObj D (.deferred none)) (grownBy_putObj' V D (.deferred none)).size (fun o h => (World.putObj_heap_other (by omega)).trans h) (fun o h => (World.putObj_heap_other (by omega)).trans h) (fun j cur t hj h => (World.putObj_heap_other (fun e => by subst e; rw [dK] at h; cases h)).trans h)
    have hT5 := hT4.grown (grownBy_putObj' V D (.deferred none)) (Nat.le_refl _) (fun r e => by simp only [Option.some.injEq] at e; omega)
    refine ⟨by simp, .inl ⟨_, _, rfl, run_takeDeferred dK, ?_⟩⟩
    refine ⟨.int .i64 0, by simp [results, Tryd.f38, go_sem, c7], ?_⟩
    exact ⟨0, L, _, rfl, hO5.lower (by omega), hT5, .inr ⟨rfl, HPV.out, rfl⟩⟩
  case stop =>
    rintro D c k W hD hk ⟨rfl, n, L, K, hst, hO, y3, hT⟩ hK
    have hpv : parseT dir.data.toList (splitL 10 s.data.toList) = .error n := readTo_bad hst.out.1
    have hn0 := hst.out.2
    have HPV := Lib.hid hpv
    have HN0 := Lib.hid hn0
    have HK := Lib.hid hK
    have HO := Lib.hid hO
    have HT := Lib.hid hT
    have HY3 := Lib.hid y3
    clear hst hpv hO hT y3 hK hn0
    gi_wp2_with fail
    rw [Exit.noGoto_ret]
    have hD2 : D ≠ w.heap.size := by omega
    have e2 : Boxed (W.putObj D (.deferred none)) w.heap.size 27 (.int .i64 n) := (World.putObj_heap_other hD2.symm).trans HY3.out
    have c7 := e2.cell
    have hO5 := HO.out.kept2 (W' := W.putObj D (.deferred none)) (grownBy_putObj' W D (.deferred none)).size (fun o h => (World.putObj_heap_other (by omega)).trans h) (fun o h => (World.putObj_heap_other (by omega)).trans h) (fun j cur t hj h => (World.putObj_heap_other (fun e => by subst e; rw [HK.out] at h; cases h)).trans h)
    have hT5 := HT.out.grown (grownBy_putObj' W D (.deferred none)) (Nat.le_refl _) (fun r e => by simp only [Option.some.injEq] at e; omega)
    refine ⟨by simp, .inl ⟨_, _, rfl, run_takeDeferred HK.out, ?_⟩⟩
    refine ⟨.int .i64 n, by simp [results, Tryd.f38, go_sem, c7], ?_⟩
    exact ⟨n, L, _, rfl, hO5.lower (by omega), hT5, .inl ⟨HN0.out, HPV.out⟩⟩
end Go.Proofs.YtckpojkbcbogbaaDoor
