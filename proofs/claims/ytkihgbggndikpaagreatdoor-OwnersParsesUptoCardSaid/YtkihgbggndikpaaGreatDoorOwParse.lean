/-
  The contract of owners.Parse.
-/
import Derived.Test.YtkihgbggndikpaaGreatDoorOwTell
import Derived.WalkSmall
import Derived.WalkMore
import Derived.Deep.MidRow
import Derived.Laws.EntriesVeiled
import Derived.Laws.Tables
import Derived.Laws.Rows
namespace Go.Proofs.YtkihgbggndikpaaGreatDoor
open Go Go.RowKit Go.Shelf Go.Proofs
attribute [local go_sem] Oper.semAt_some

theorem below_setRow {B : Nat} {a w : World} (h : Below B a w) (g : Nat) (cs : Array Value) (hg : B ≤ g) : Below B a (w.setRow g cs) :=
  h.trans ⟨rfl, rfl, rfl, by simp, fun k hk => setRow_other w g k cs (by omega)⟩
theorem store_cells_row {P : Program} (w : World) (g : Nat) (t : TypeId) (old cells : Array Value) (hg : w.heap[g]? = some (.cells old t (0, 0))) (ho : old.size = cells.size) (h1 : cells.all (·.oneCell') = true) :
    (storeCells ⟨g, 0, none⟩ cells.toList).run P w = .ok () (w.setRow g cells) := by
  have := run_storeCells_from (P := P) g t cells.toList 0 old w hg (by simp; omega) (fun v hv => (Array.all_eq_true_iff_forall_mem.1 h1) v (by simpa using hv))
  rw [List.take_zero, List.nil_append] at this
  exact this
def kindsA : Array Value := #[.func (.func 68) #[] #[], .func (.func 69) #[] #[], .func (.func 70) #[] #[], .func (.func 71) #[] #[], .func (.func 72) #[] #[], .func (.func 73) #[] #[], .func (.func 75) #[] #[], .func (.func 76) #[] #[]]
set_option maxRecDepth 100000 in
set_option maxHeartbeats 2000000 in
theorem kinds_any (w : World) : Calls Tryz.prog 38 #[] w fun e w' => e = .returned (.agg kindsA) ∧ Below w.heap.size w w' := by
  go_enter Tryz.func38, Tryz.ntmps38
  go_wp2_with fail
  have hn := heap_alloc_new w (.cells kindsA 67)
  refine bodyPost_ret (results_cell_row rfl _ _ w.heap.size _ kindsA (0, 0) _ rfl hn Tryz.underlying67 rfl (by kernel_rfl)) rfl ⟨rfl, (Below.refl _ w).alloc (Nat.le_refl _) _⟩

def ParsePost (s : Bs) (w : World) (e : Ending) (w' : World) : Prop := ∃ v, e = .returned (.tuple #[v, .int .i64 (parseV s).1]) ∧ OwAt w' v (parseV s).2 ∧ Below w.heap.size w w'

def parseTo (s : ByteArray) (k : Nat) : Option Ow := parseL ((splitL 10 s.data.toList).take k)
theorem parseTo_step {s : ByteArray} {k : Nat} {x : ByteArray} {o : Ow} (hx : (piecesB 10 s)[k]? = some x) (h : parseTo s k = some o) : parseTo s (k + 1) = tellL o (wordsL x.data.toList) := by
  unfold parseTo at h ⊢
  unfold piecesB at hx
  rw [List.getElem?_map] at hx
  cases e : (splitL 10 s.data.toList)[k]? with
  | none => rw [e] at hx; cases hx
  | some p =>
    rw [e] at hx
    cases hx
    rw [List.take_add_one, e, Option.toList_some, parseL_snoc, h, mkB_data]
    rfl
theorem piece_le (c : UInt8) : ∀ (q : Bs) (l : Bs), l ∈ splitL c q → l.length ≤ q.length := by
  intro q l hl
  have h1 : mkB l ∈ piecesB c (mkB q) := by unfold piecesB; rw [mkB_data]; exact List.mem_map.2 ⟨l, hl, rfl⟩
  have h2 := piecesB_small c (mkB q) _ h1
  rwa [mkB_size, mkB_size] at h2
theorem wordsL_small (l : Bs) : ∀ p ∈ wordsL l, p.length ≤ l.length := fun _p hp => Nat.le_trans (piece_le 32 _ _ (List.mem_filter.1 hp).1) (cutR_le l)
theorem wordsL_len (l : Bs) : (wordsL l).length ≤ l.length + 1 := Nat.le_trans (List.length_filter_le _ _) (Nat.le_trans (splitL_length 32 _) (Nat.succ_le_succ (cutR_le l)))
theorem kind0 (l : List Bs) : l.isEmpty = decide (kindL l = 0) := by
  unfold kindL
  cases h0 : l.isEmpty <;> simp
  split
  · simp
  · split <;> (try split) <;> simp
theorem kind1 (l : List Bs) (h : 1 ≤ kindL l) : isNopL l = decide (kindL l = 1) := by
  unfold kindL at h ⊢
  cases h0 : l.isEmpty <;> cases h1 : isNopL l <;> cases h2 : isPerL l <;> cases h3 : isNameL l <;> simp [h0, h1, h2, h3] at h ⊢
theorem kind2 (l : List Bs) (h : 2 ≤ kindL l) : isPerL l = decide (kindL l = 2) := by
  unfold kindL at h ⊢
  cases h0 : l.isEmpty <;> cases h1 : isNopL l <;> cases h2 : isPerL l <;> cases h3 : isNameL l <;> simp [h0, h1, h2, h3] at h ⊢
theorem kind3 (l : List Bs) (h : 3 ≤ kindL l) : isNameL l = decide (kindL l = 3) := by
  unfold kindL at h ⊢
  cases h0 : l.isEmpty <;> cases h1 : isNopL l <;> cases h2 : isPerL l <;> cases h3 : isNameL l <;> simp [h0, h1, h2, h3] at h ⊢
def ParseI (s : ByteArray) (w : World) (gk : Nat) (k : Nat) (W : World) : Prop :=
  W.heap[w.heap.size]? = some (.cells #[.bool false, .slice none 0 0] 24 (0, 0)) ∧ Boxed W (w.heap.size + 1) 27 (.int .i64 0) ∧
    (∃ L np, Hid (parseTo s k = some (np, lnsX L)) ∧ OwO (gk + 4) (w.heap.size + 2) L np W ∧ L.length ≤ k) ∧ W.heap[gk]? = some (.cells kindsA 67 (0, 0)) ∧ Below w.heap.size w W
def ParseX (s : ByteArray) (w : World) (c : Code) (k : Nat) (W : World) : Prop :=
  c = .ret ∧ Hid (parseTo s k = none) ∧ W.heap[w.heap.size]? = some (.cells #[.bool false, .slice none 0 0] 24 (0, 0)) ∧ Boxed W (w.heap.size + 1) 27 (.int .i64 11) ∧ Below w.heap.size w W
theorem parseI_own {s : ByteArray} {w W0 : World} {gk : Nat} (hs0 : W0.heap.size = gk + 4) (hz2 : w.heap.size + 3 ≤ gk) : OwnTo (OnlyS (gk + 1)) W0.heap.size (fun k W => ParseI s w gk k W) := by
  rintro k X Y row ⟨h1, h2, ⟨L, np, h3, h4, h5⟩, h6, h7⟩ hg hr
  have keep : ∀ j o, X.heap[j]? = some o → j < gk + 4 → j ≠ gk + 1 → Y.heap[j]? = some o := fun j o hj hlt hne => (hg.block j (Array.getElem?_eq_some_iff.1 hj).1 (fun e => by
    rcases hr j e.symm with h | ⟨h, _⟩
    · exact hne h
    · omega)).trans hj
  refine ⟨keep _ _ h1 (by omega) (by omega), keep _ _ h2 (by omega) (by omega), ⟨L, np, h3, h4.kept hg fun r e => ?_, h5⟩, keep _ _ h6 (by omega) (by omega), h7.grown hg h7.size (fun r e => ?_)⟩
  · rcases hr r e with h | ⟨h, o, ho, hc⟩
    · unfold OnlyS at h; exact ⟨by omega, .inl (by omega)⟩
    · exact ⟨by omega, .inr ⟨o, ho, hc⟩⟩
  · rcases hr r e with h | ⟨h, _⟩
    · unfold OnlyS at h; omega
    · omega
theorem parseX_own {s : ByteArray} {w W0 : World} {gk : Nat} {c : Code} (hs0 : W0.heap.size = gk + 4) (hz2 : w.heap.size + 3 ≤ gk) : OwnTo (OnlyS (gk + 1)) W0.heap.size (fun k W => ParseX s w c k W) := by
  rintro k X Y row ⟨h0, h1, h2, h3, h7⟩ hg hr
  have keep : ∀ j o, X.heap[j]? = some o → j < gk + 4 → j ≠ gk + 1 → Y.heap[j]? = some o := fun j o hj hlt hne => (hg.block j (Array.getElem?_eq_some_iff.1 hj).1 (fun e => by
    rcases hr j e.symm with h | ⟨h, _⟩
    · exact hne h
    · omega)).trans hj
  refine ⟨h0, h1, keep _ _ h2 (by omega) (by omega), keep _ _ h3 (by omega) (by omega), h7.grown hg h7.size (fun r e => ?_)⟩
  rcases hr r e with h | ⟨h, _⟩
  · unfold OnlyS at h; omega
  · omega

theorem KeepsOthers.of_below {W W' : World} (h : Below W.heap.size W W') : KeepsOthers W W' := ⟨h.size, fun k _o hk _ => (h.block k (Array.getElem?_eq_some_iff.1 hk).1).trans hk⟩
theorem KeepsOthers.setAt {W : World} {g : Nat} {cs : Array Value} {t : TypeId} {fr : Nat × Nat} {a : Nat} (v : Value) (h : W.heap[g]? = some (.cells cs t fr)) : KeepsOthers W (W.setCell ⟨g, a, none⟩ v) :=
  ⟨by simp [World.setCell], fun k o hk hc => (heap_setCell_other W ⟨g, a, none⟩ k v (fun e => by
    have e : k = g := e
    subst e; rw [h] at hk; cases hk; cases hc)).trans hk⟩
theorem kindL_le (l : List Bs) : kindL l ≤ 4 := by
  unfold kindL
  split
  · omega
  · split <;> (try split) <;> (try split) <;> omega
theorem parse_next {s : ByteArray} {w W W' : World} {gk k B : Nat} {L L' : List LX} {np np' : Bool} (hz2 : w.heap.size + 3 ≤ gk) (hWs : gk + 4 ≤ W.heap.size) (hB : Below w.heap.size w W)
    (h1 : W.heap[w.heap.size]? = some (.cells #[.bool false, .slice none 0 0] 24 (0, 0))) (h2 : Boxed W (w.heap.size + 1) 27 (.int .i64 0)) (hk : W.heap[gk]? = some (.cells kindsA 67 (0, 0)))
    (hT : TurnO (gk + 4) (w.heap.size + 2) W W') (hO : OwO (gk + 4) (w.heap.size + 2) L np W) (hO' : OwO (gk + 4) (w.heap.size + 2) L' np' W') (hst : parseTo s (k + 1) = some (np', lnsX L')) (hl : L'.length ≤ k + 1) :
    KeepsFrom B W W' ∧ KeepsB (KeepThree (gk + 1) (gk + 2) (gk + 3)) W W' ∧ ParseI s w gk (k + 1) W' := by
  refine ⟨(hT.others (fun o ho => ?_)).from _, ⟨hT.size, ?_⟩, (hT.low _ (by omega) (by omega) (by omega)).trans h1, (hT.low _ (by omega) (by omega) (by omega)).trans h2, ⟨L', np', hst, hO', hl⟩, (hT.low _ (by omega) (by omega) (by omega)).trans hk, hB.trans (hT.below (by omega) (by omega) hB.size)⟩
  · obtain ⟨v, hv, _⟩ := hO.box
    rw [hv] at ho; cases ho; rfl
  · rintro j (rfl | rfl | rfl) hj <;> exact hT.low _ (by omega) (by omega) (by omega)
set_option maxRecDepth 100000 in
set_option maxHeartbeats 16000000 in
theorem parse_any (s : ByteArray) (w : World) (hs : s.size ≤ 16384) (hm : MaxOk w) (hT : TabsOk w) :
    Calls Tryz.prog 13 #[.string s] w (ParsePost s.data.toList w) := by
  have hs1 : ¬ (16384 : Int) < (s.size : Int) := by omega
  refine (callsIn_wide (n := 3)).1 ?_
  generalize 3 = n
  refine callsIn_of_wp_marks Tryz.func13 rfl trivial ?_ rfl
  simp only [Tryz.ntmps13, List.size_toArray, List.length_cons, List.length_nil, Nat.reduceAdd, Nat.reduceSub, Array.replicate_succ, Array.replicate_zero, List.push_toArray, List.append_toArray, List.nil_append, List.cons_append]
  gi_wp2_with fail
  refine wpIn_scope_wide ?_
  gi_wp2_with fail
  obtain ⟨W1, hW1⟩ : ∃ W, ((w.alloc (.cells #[.bool false, .slice none 0 0] 24)).alloc (.cells #[.int .i64 0] 27)).alloc (.cells #[.bool false, .slice none 0 0] 24) = W := ⟨_, rfl⟩
  have hz1 : W1.heap.size = w.heap.size + 3 := by rw [← hW1]; simp
  have hb1 : Below w.heap.size w W1 := by rw [← hW1]; exact (((Below.refl _ w).alloc (Nat.le_refl _) _).alloc (by simp) _).alloc (by simp; omega) _
  have ha1 : W1.heap[w.heap.size]? = some (.cells #[.bool false, .slice none 0 0] 24 (0, 0)) := by
    rw [← hW1, Below.heap_alloc _ _ _ (by simp only [World.size_alloc]; omega), Below.heap_alloc _ _ _ (by simp)]; exact heap_alloc_new w _
  have ha2 : Boxed W1 (w.heap.size + 1) 27 (.int .i64 0) := by
    rw [← hW1]; have := Boxed.new (w.alloc (.cells #[.bool false, .slice none 0 0] 24)) 27 (.int .i64 0); rw [World.size_alloc] at this; exact this.alloc _
  have ha3 : W1.heap[w.heap.size + 2]? = some (.cells #[.bool false, .slice none 0 0] 24 (0, 0)) := by
    rw [← hW1]; have := heap_alloc_new ((w.alloc (.cells #[.bool false, .slice none 0 0] 24)).alloc (.cells #[.int .i64 0] 27)) (.cells #[.bool false, .slice none 0 0] 24); simp only [World.size_alloc] at this; exact this
  rw [hW1]
  clear hW1
  refine wide_call (kinds_any W1) ?_
  rintro e w2 ⟨rfl, hb2⟩
  have hb2w := hb1.trans (hb2.mono hb1.size)
  have ha1 := (hb2.block _ (by omega)).trans ha1
  have ha2 : Boxed w2 (w.heap.size + 1) 27 (.int .i64 0) := (hb2.block _ (by omega)).trans ha2
  have ha3 := (hb2.block _ (by omega)).trans ha3
  have hz2 : w.heap.size + 3 ≤ w2.heap.size := by have := hb2.size; omega
  have hn := heap_alloc_new w2 (.cells #[.nilFunc, .nilFunc, .nilFunc, .nilFunc, .nilFunc, .nilFunc, .nilFunc, .nilFunc] 67)
  have hsc := store_cells_row (P := Tryz.prog) _ w2.heap.size 67 _ kindsA hn rfl (by kernel_rfl)
  have hsv := run_storeVar_row (P := Tryz.prog) _ w2.heap.size 67 67 _ kindsA hn (by kernel_rfl) rfl (by kernel_rfl)
  clear hb2 hz1 hb1
  gi_wp2_with fail
  obtain ⟨W3, hW3⟩ : ∃ W, (w2.alloc (.cells #[.nilFunc, .nilFunc, .nilFunc, .nilFunc, .nilFunc, .nilFunc, .nilFunc, .nilFunc] 67)).setRow w2.heap.size kindsA = W := ⟨_, rfl⟩
  have hz3 : W3.heap.size = w2.heap.size + 1 := by rw [← hW3]; simp
  have hb3 : Below w2.heap.size w2 W3 := by rw [← hW3]; exact below_setRow ((Below.refl _ w2).alloc (Nat.le_refl _) _) _ _ (Nat.le_refl _)
  have hk3 : W3.heap[w2.heap.size]? = some (.cells kindsA 67 (0, 0)) := by rw [← hW3]; exact setRow_heap _ _ _ _ _ _ hn
  have hb3w := hb2w.trans (hb3.mono hb2w.size)
  have ha1 := (hb3.block _ (by omega)).trans ha1
  have ha2 : Boxed W3 (w.heap.size + 1) 27 (.int .i64 0) := (hb3.block _ (by omega)).trans ha2
  have ha3 := (hb3.block _ (by omega)).trans ha3
  rw [hW3]
  clear hW3 hsc hsv hn hb3 hb2w
  obtain ⟨gk, hgk⟩ : ∃ gk, w2.heap.size = gk := ⟨_, rfl⟩
  rw [hgk] at hz2 hz3 hk3 ⊢
  clear hgk
  refine wpIn_label ?_
  gi_wp2_with fail
  refine wide_call (splitSeq_any s ⟨#[10]⟩ _) ?_
  rintro e w' ⟨rfl, rfl⟩
  gi_wp2_with fail
  obtain ⟨W0, hW0⟩ : ∃ W, ((W3.alloc (.cells #[.string s] 9)).alloc (.cells #[.string ⟨#[10]⟩] 9)).alloc (.cells #[.int .i64 0] 3) = W := ⟨_, rfl⟩
  have hs0 : W0.heap.size = gk + 4 := by rw [← hW0]; simp [hz3]
  have hb0 : Below W3.heap.size W3 W0 := by rw [← hW0]; exact (((Below.refl _ W3).alloc (Nat.le_refl _) _).alloc (by simp) _).alloc (by simp; omega) _
  have x3 : Boxed W0 (gk + 1) 9 (.string s) := by rw [← hW0]; have := Boxed.new W3 9 (.string s); rw [hz3] at this; exact (this.alloc _).alloc _
  have x4 : Boxed W0 (gk + 2) 9 (.string ⟨#[10]⟩) := by
    rw [← hW0]; have := Boxed.new (W3.alloc (.cells #[.string s] 9)) 9 (.string ⟨#[10]⟩); rw [World.size_alloc, hz3] at this; exact this.alloc _
  have x5 : Boxed W0 (gk + 3) 3 (.int .i64 0) := by
    rw [← hW0]; have := Boxed.new ((W3.alloc (.cells #[.string s] 9)).alloc (.cells #[.string ⟨#[10]⟩] 9)) 3 (.int .i64 0); simp only [World.size_alloc, hz3] at this; exact this
  have ha1 := (hb0.block _ (by omega)).trans ha1
  have ha2 : Boxed W0 (w.heap.size + 1) 27 (.int .i64 0) := (hb0.block _ (by omega)).trans ha2
  have ha3 := (hb0.block _ (by omega)).trans ha3
  have hk3 := (hb0.block _ (by omega)).trans hk3
  have hb0w := hb3w.trans (hb0.mono hb3w.size)
  rw [hW0]
  clear hW0 hb0 hb3w hz3
  have hO0 : OwO (gk + 4) (w.heap.size + 2) [] false W0 := ⟨⟨_, ha3, World.ownsRow_nil _ _ _ _⟩, fun x hx => by cases hx⟩
  have hpl : (piecesB 10 s).length = (splitL 10 s.data.toList).length := by unfold piecesB; simp
  have hsl := splitL_length 10 s.data.toList
  have hln : s.data.toList.length = s.size := Array.length_toList
  refine wpIn_rangeList rfl (fun h => absurd h (by decide)) (gf := 101) (lb := #[.pointer (some ⟨gk + 2, 0, none⟩), .pointer (some ⟨gk + 1, 0, none⟩), .pointer (some ⟨gk + 3, 0, none⟩)]) rfl trivial (enters_of Tryz.func101 (by kernel_rfl) rfl)
    (split_list _ (gk + 1) (gk + 2) (gk + 3) 10 s (by omega) W0 (by omega) (by omega) x3 x4 x5) KeepsB.trans (keepsB_b (by rintro k (rfl | rfl | rfl) <;> omega)) (by rintro r rfl; omega) (Below.refl _ _) (fun _ => rfl)
    (fun k W => ParseI s w gk k W) (fun c k W => ParseX s w c k W)
    (parseI_own hs0 hz2) (fun c => parseX_own hs0 hz2)
    ⟨ha1, ha2, ⟨[], false, rfl, hO0, Nat.zero_le _⟩, hk3, hb0w⟩
    (fun x a' _ => a' = { tmps := #[.string s, undef, .pointer (some ⟨w.heap.size, 0, none⟩), .pointer (some ⟨w.heap.size + 1, 0, none⟩), .pointer (some ⟨w.heap.size + 1 + 1, 0, none⟩), .pointer (some ⟨gk, 0, none⟩), .string x, undef, undef, undef, .string s, .int .i64 s.size, .bool (decide ((16384 : Int) < (s.size : Int))), undef, .agg kindsA, .string s, .func (.func 101) #[] #[.pointer (some ⟨gk + 2, 0, none⟩), .pointer (some ⟨gk + 1, 0, none⟩), .pointer (some ⟨gk + 3, 0, none⟩)], .string x, undef, undef, undef, undef, undef, undef, undef, undef, undef, undef, undef, undef, undef, undef, undef, undef, undef], defers := [] }) (fun _ _ _ _ _ _ hs _ _ => hs) ?assign ?body ?done ?stop
  case assign =>
    intro l k x W K hi hK
    gi_wp2
    exact hK _ _ (KeepsFrom.refl _ _) (KeepsB.refl _ _) hi rfl
  case body =>
    rintro l k x a' W hl ⟨rl, hrl⟩ ⟨y1, y2, ⟨L, np, hst, hO, hLk⟩, hkk, hB⟩ rfl hx
    have hWs : gk + 4 ≤ W.heap.size := by have := (Array.getElem?_eq_some_iff.1 hrl).1; omega
    clear hrl
    have hxs : x.size ≤ 16384 := Nat.le_trans (piecesB_small 10 s x (List.mem_of_getElem? hx)) hs
    have hkl : k < (piecesB 10 s).length := (List.getElem?_eq_some_iff.1 hx).1
    have hnx := parseTo_step hx hst.out
    have hmW := hm.below hB
    have hTW := hT.below (Nat.le_refl _) hB
    have HW := Lib.hid (wordsOf_any x W (by omega) hmW hTW)
    have HX := Lib.hid hx; clear hx
    have HL : Hid (∀ p ∈ wordsL x.data.toList, p.length ≤ 16384) := fun p hp => Nat.le_trans (wordsL_small _ p hp) (by rw [Array.length_toList]; exact hxs)
    have hLn : (wordsL x.data.toList).length ≤ 16385 := Nat.le_trans (wordsL_len _) (by rw [Array.length_toList]; exact Nat.succ_le_succ hxs)
    have hW := wordsOf_any x W (by omega) hmW hTW
    obtain ⟨ws, hws⟩ : ∃ ws, wordsL x.data.toList = ws := ⟨_, rfl⟩
    rw [hws] at hW HL hLn hnx
    clear hws
    have HNX := Lib.hid hnx; clear hnx
    have HW := Lib.hid hW; clear hW
    gi_wp2_with fail
    refine wide_call_in HW.out ?_
    rintro e W7 ⟨A, c, rfl, hwt, hwc, hwm, hb7⟩
    have hWs7 : gk + 4 ≤ W7.heap.size := Nat.le_trans hWs hb7.size
    have z1 := (hb7.block _ (by omega)).trans y1
    have z2 : Boxed W7 (w.heap.size + 1) 27 (.int .i64 0) := (hb7.block _ (by omega)).trans y2
    have zk := (hb7.block _ (by omega)).trans hkk
    have zO := hO.below hb7
    have zt := hwt.lower hWs
    have zm := hmW.below hb7
    have zB := hB.trans (hb7.mono hB.size)
    have HWA := Lib.hid (show WordsAt W7 A c ws from ⟨zt.at_, hwc, hwm, by omega, fun p hp => Nat.le_trans (HL.out p hp) (by omega)⟩)
    have q0 : W7.cell? ⟨gk, 0, none⟩ = some (.func (.func 68) #[] #[]) := cell_of_row W7 gk 0 _ _ _ zk
    have q1 : W7.cell? ⟨gk, 1, none⟩ = some (.func (.func 69) #[] #[]) := cell_of_row W7 gk 1 _ _ _ zk
    have q2 : W7.cell? ⟨gk, 2, none⟩ = some (.func (.func 70) #[] #[]) := cell_of_row W7 gk 2 _ _ _ zk
    have q3 : W7.cell? ⟨gk, 3, none⟩ = some (.func (.func 71) #[] #[]) := cell_of_row W7 gk 3 _ _ _ zk
    have q4 : W7.cell? ⟨gk, 4, none⟩ = some (.func (.func 72) #[] #[]) := cell_of_row W7 gk 4 _ _ _ zk
    have q5 : W7.cell? ⟨gk, 5, none⟩ = some (.func (.func 73) #[] #[]) := cell_of_row W7 gk 5 _ _ _ zk
    have q6 : W7.cell? ⟨gk, 6, none⟩ = some (.func (.func 75) #[] #[]) := cell_of_row W7 gk 6 _ _ _ zk
    have q7 : W7.cell? ⟨gk, 7, none⟩ = some (.func (.func 76) #[] #[]) := cell_of_row W7 gk 7 _ _ _ zk
    have Z1 := Lib.hid z1
    have Z2 := Lib.hid z2
    have ZK := Lib.hid zk
    have ZO := Lib.hid zO
    have ZT := Lib.hid zt
    have HWT := Lib.hid hwt
    have HST := Lib.hid hst.out
    have HBO := Lib.hid hO
    have Y1 := Lib.hid y1
    have Y2 := Lib.hid y2
    have YK := Lib.hid hkk
    clear y1 y2 hkk hO z1 z2 zk zO zt hwt hst HW
    gi_wp2_with fail
    clear q0 q1 q2 q3 q4 q5 q6 q7
    gi_loopw [21] (fun v21 wr => ∃ m : Nat, v21 = .int .i64 m ∧ m ≤ 4 ∧ Hid (m ≤ kindL ws) ∧ Below W7.heap.size W7 wr) (fun v21 _ => 4 - (intOf v21).toNat)
    case atStart => exact ⟨0, rfl, by omega, Nat.zero_le _, Below.refl _ _⟩
    case round =>
      obtain ⟨m, rfl, hm4, hmk, hbr⟩ := hrel
      by_cases h4 : m < 4
      · rcases (show m = 0 ∨ m = 1 ∨ m = 2 ∨ m = 3 by omega) with h | h | h | h
        · subst h
          have hix : (Instr.index 67 (.agg #[.func (.func 68) #[] #[], .func (.func 69) #[] #[], .func (.func 70) #[] #[], .func (.func 71) #[] #[], .func (.func 72) #[] #[], .func (.func 73) #[] #[], .func (.func 75) #[] #[], .func (.func 76) #[] #[]]) (.int .i64 0)).run Tryz.prog wr = .ok (.agg #[.func (.func 68) #[] #[], .func (.func 69) #[] #[]]) wr := by kernel_rfl
          have hn9 := heap_alloc_new wr (.cells #[.func (.func 68) #[] #[], .func (.func 69) #[] #[]] 66)
          have hb9 : Below W7.heap.size W7 (wr.alloc (.cells #[.func (.func 68) #[] #[], .func (.func 69) #[] #[]] 66)) := hbr.alloc hbr.size _
          have hwa := HWA.out.below hb9
          have HC := Lib.hid (isNothing_any A c ws _ hwa)
          have hkd := kind0 ws
          have HN9 := Lib.hid hn9
          have HB9 := Lib.hid hb9
          have ei := enters_of (P := Tryz.prog) Tryz.func68 (by kernel_rfl) rfl
          have et := enters_of (P := Tryz.prog) Tryz.func69 (by kernel_rfl) rfl
          clear hn9 hb9 hwa
          gi_wp2_with fail
          refine wide_call_in HC.out ?_
          rintro e w8 ⟨rfl, hb8⟩
          have hb78 : Below W7.heap.size W7 w8 := HB9.out.trans (hb8.mono HB9.out.size)
          cases hq : ws.isEmpty with
          | true =>
            rw [hq] at hkd
            have hk : kindL ws = 0 := of_decide_eq_true hkd.symm
            clear hkd hix hmk
            have hnx2 := HNX.out
            unfold tellL at hnx2
            rw [hk] at hnx2
            have HK := Lib.hid hk
            have HNX2 := Lib.hid hnx2
            clear hk hnx2 hq
            have hO8 := ZO.out.below hb78
            have ht8 := ZT.out.below hb78
            have hs8 : gk + 4 ≤ w8.heap.size := Nat.le_trans hWs7 hb78.size
            have hlt9 : wr.heap.size < (wr.alloc (.cells #[.func (.func 68) #[] #[], .func (.func 69) #[] #[]] 66)).heap.size := by simp
            have c9 : w8.cell? ⟨wr.heap.size, 1, none⟩ = some (.func (.func 69) #[] #[]) := cell_of_row w8 wr.heap.size 1 _ _ _ ((hb8.block _ hlt9).trans HN9.out)
            have HT := Lib.hid (tell0_any (gk + 4) (w.heap.size + 2) L np A c ws w8 hO8)
            have HO8 := Lib.hid hO8
            have HT8 := Lib.hid ht8
            clear hO8 ht8 hlt9 hb8
            gi_wp2_with fail
            refine wide_call_in HT.out ?_
            rintro e w10 ⟨rfl, hO10, hT10⟩
            gi_wp2_with fail
            exact parse_next hz2 hWs hB Y1.out Y2.out YK.out ((TurnO.of_below (hb7.trans (hb78.mono hb7.size))).trans hT10) HBO.out hO10 HNX2.out (by omega)
          | false =>
            rw [hq] at hkd
            have hk : kindL ws ≠ 0 := of_decide_eq_false hkd.symm
            clear hkd hix
            have HK := Lib.hid (show 1 ≤ kindL ws by have := hmk.out; omega)
            clear hk hq
            gi_wp2_with fail
            refine ⟨⟨1, by go_num, by omega, HK.out, hb78⟩, ?_⟩
            simp [intOf]
        · subst h
          have hix : (Instr.index 67 (.agg #[.func (.func 68) #[] #[], .func (.func 69) #[] #[], .func (.func 70) #[] #[], .func (.func 71) #[] #[], .func (.func 72) #[] #[], .func (.func 73) #[] #[], .func (.func 75) #[] #[], .func (.func 76) #[] #[]]) (.int .i64 1)).run Tryz.prog wr = .ok (.agg #[.func (.func 70) #[] #[], .func (.func 71) #[] #[]]) wr := by kernel_rfl
          have hn9 := heap_alloc_new wr (.cells #[.func (.func 70) #[] #[], .func (.func 71) #[] #[]] 66)
          have hb9 : Below W7.heap.size W7 (wr.alloc (.cells #[.func (.func 70) #[] #[], .func (.func 71) #[] #[]] 66)) := hbr.alloc hbr.size _
          have hwa := HWA.out.below hb9
          have HC := Lib.hid (isNop_any A c ws _ hwa)
          have hkd := kind1 ws hmk.out
          have HN9 := Lib.hid hn9
          have HB9 := Lib.hid hb9
          have ei := enters_of (P := Tryz.prog) Tryz.func70 (by kernel_rfl) rfl
          have et := enters_of (P := Tryz.prog) Tryz.func71 (by kernel_rfl) rfl
          clear hn9 hb9 hwa
          gi_wp2_with fail
          refine wide_call_in HC.out ?_
          rintro e w8 ⟨rfl, hb8⟩
          have hb78 : Below W7.heap.size W7 w8 := HB9.out.trans (hb8.mono HB9.out.size)
          cases hq : isNopL ws with
          | true =>
            rw [hq] at hkd
            have hk : kindL ws = 1 := of_decide_eq_true hkd.symm
            clear hkd hix hmk
            have hnx2 := HNX.out
            unfold tellL at hnx2
            rw [hk] at hnx2
            have HK := Lib.hid hk
            have HNX2 := Lib.hid hnx2
            clear hk hnx2 hq
            have hO8 := ZO.out.below hb78
            have ht8 := ZT.out.below hb78
            have hs8 : gk + 4 ≤ w8.heap.size := Nat.le_trans hWs7 hb78.size
            have hlt9 : wr.heap.size < (wr.alloc (.cells #[.func (.func 70) #[] #[], .func (.func 71) #[] #[]] 66)).heap.size := by simp
            have c9 : w8.cell? ⟨wr.heap.size, 1, none⟩ = some (.func (.func 71) #[] #[]) := cell_of_row w8 wr.heap.size 1 _ _ _ ((hb8.block _ hlt9).trans HN9.out)
            have HT := Lib.hid (tell1_any (gk + 4) (w.heap.size + 2) L np A c ws w8 hO8 (by omega))
            have HO8 := Lib.hid hO8
            have HT8 := Lib.hid ht8
            clear hO8 ht8 hlt9 hb8
            gi_wp2_with fail
            refine wide_call_in HT.out ?_
            rintro e w10 ⟨rfl, hO10, hT10⟩
            gi_wp2_with fail
            exact parse_next hz2 hWs hB Y1.out Y2.out YK.out ((TurnO.of_below (hb7.trans (hb78.mono hb7.size))).trans hT10) HBO.out hO10 HNX2.out (by omega)
          | false =>
            rw [hq] at hkd
            have hk : kindL ws ≠ 1 := of_decide_eq_false hkd.symm
            clear hkd hix
            have HK := Lib.hid (show 2 ≤ kindL ws by have := hmk.out; omega)
            clear hk hq
            gi_wp2_with fail
            refine ⟨⟨2, by go_num, by omega, HK.out, hb78⟩, ?_⟩
            simp [intOf]
        · subst h
          have hix : (Instr.index 67 (.agg #[.func (.func 68) #[] #[], .func (.func 69) #[] #[], .func (.func 70) #[] #[], .func (.func 71) #[] #[], .func (.func 72) #[] #[], .func (.func 73) #[] #[], .func (.func 75) #[] #[], .func (.func 76) #[] #[]]) (.int .i64 2)).run Tryz.prog wr = .ok (.agg #[.func (.func 72) #[] #[], .func (.func 73) #[] #[]]) wr := by kernel_rfl
          have hn9 := heap_alloc_new wr (.cells #[.func (.func 72) #[] #[], .func (.func 73) #[] #[]] 66)
          have hb9 : Below W7.heap.size W7 (wr.alloc (.cells #[.func (.func 72) #[] #[], .func (.func 73) #[] #[]] 66)) := hbr.alloc hbr.size _
          have hwa := HWA.out.below hb9
          have HC := Lib.hid (isPer_any A c ws _ hwa (zm.below hb9))
          have hkd := kind2 ws hmk.out
          have HN9 := Lib.hid hn9
          have HB9 := Lib.hid hb9
          have ei := enters_of (P := Tryz.prog) Tryz.func72 (by kernel_rfl) rfl
          have et := enters_of (P := Tryz.prog) Tryz.func73 (by kernel_rfl) rfl
          clear hn9 hb9 hwa
          gi_wp2_with fail
          refine wide_call_in HC.out ?_
          rintro e w8 ⟨rfl, hb8⟩
          have hb78 : Below W7.heap.size W7 w8 := HB9.out.trans (hb8.mono HB9.out.size)
          cases hq : isPerL ws with
          | true =>
            rw [hq] at hkd
            have hk : kindL ws = 2 := of_decide_eq_true hkd.symm
            clear hkd hix hmk
            have hnx2 := HNX.out
            unfold tellL at hnx2
            rw [hk] at hnx2
            have h2w : 2 < ws.length := by
              unfold isPerL at hq
              simp only [Bool.and_eq_true, decide_eq_true_eq] at hq
              exact hq.1
            have HK := Lib.hid hk
            have HNX2 := Lib.hid hnx2
            clear hk hnx2 hq
            have hO8 := ZO.out.below hb78
            have ht8 := ZT.out.below hb78
            have hs8 : gk + 4 ≤ w8.heap.size := Nat.le_trans hWs7 hb78.size
            have hlt9 : wr.heap.size < (wr.alloc (.cells #[.func (.func 72) #[] #[], .func (.func 73) #[] #[]] 66)).heap.size := by simp
            have c9 : w8.cell? ⟨wr.heap.size, 1, none⟩ = some (.func (.func 73) #[] #[]) := cell_of_row w8 wr.heap.size 1 _ _ _ ((hb8.block _ hlt9).trans HN9.out)
            obtain ⟨g2, o2, cur2, hA2, _, _, _⟩ := ht8 (by omega)
            subst hA2
            have HT := Lib.hid (tell2_any (gk + 4) (w.heap.size + 2) L np g2 o2 c ws w8 hO8 (by omega) (by omega) hs8 ht8 hwc hwm h2w)
            have HO8 := Lib.hid hO8
            have HT8 := Lib.hid ht8
            clear hO8 ht8 hlt9 hb8
            gi_wp2_with fail
            refine wide_call_in HT.out ?_
            rintro e w10 ⟨rfl, hO10, hT10⟩
            gi_wp2_with fail
            exact parse_next hz2 hWs hB Y1.out Y2.out YK.out ((TurnO.of_below (hb7.trans (hb78.mono hb7.size))).trans hT10) HBO.out hO10 (by rw [HNX2.out]; unfold tellK; rw [lnsX_append]; simp only [lnsX, List.map_cons, List.map_nil, LX.ln, mkB_data]) (by rw [List.length_append]; simp only [List.length_cons, List.length_nil]; omega)
          | false =>
            rw [hq] at hkd
            have hk : kindL ws ≠ 2 := of_decide_eq_false hkd.symm
            clear hkd hix
            have HK := Lib.hid (show 3 ≤ kindL ws by have := hmk.out; omega)
            clear hk hq
            gi_wp2_with fail
            refine ⟨⟨3, by go_num, by omega, HK.out, hb78⟩, ?_⟩
            simp [intOf]
        · subst h
          have hix : (Instr.index 67 (.agg #[.func (.func 68) #[] #[], .func (.func 69) #[] #[], .func (.func 70) #[] #[], .func (.func 71) #[] #[], .func (.func 72) #[] #[], .func (.func 73) #[] #[], .func (.func 75) #[] #[], .func (.func 76) #[] #[]]) (.int .i64 3)).run Tryz.prog wr = .ok (.agg #[.func (.func 75) #[] #[], .func (.func 76) #[] #[]]) wr := by kernel_rfl
          have hn9 := heap_alloc_new wr (.cells #[.func (.func 75) #[] #[], .func (.func 76) #[] #[]] 66)
          have hb9 : Below W7.heap.size W7 (wr.alloc (.cells #[.func (.func 75) #[] #[], .func (.func 76) #[] #[]] 66)) := hbr.alloc hbr.size _
          have hwa := HWA.out.below hb9
          have HC := Lib.hid (isName_any A c ws _ hwa)
          have hkd := kind3 ws hmk.out
          have HN9 := Lib.hid hn9
          have HB9 := Lib.hid hb9
          have ei := enters_of (P := Tryz.prog) Tryz.func75 (by kernel_rfl) rfl
          have et := enters_of (P := Tryz.prog) Tryz.func76 (by kernel_rfl) rfl
          clear hn9 hb9 hwa
          gi_wp2_with fail
          refine wide_call_in HC.out ?_
          rintro e w8 ⟨rfl, hb8⟩
          have hb78 : Below W7.heap.size W7 w8 := HB9.out.trans (hb8.mono HB9.out.size)
          cases hq : isNameL ws with
          | true =>
            rw [hq] at hkd
            have hk : kindL ws = 3 := of_decide_eq_true hkd.symm
            clear hkd hix hmk
            have hnx2 := HNX.out
            unfold tellL at hnx2
            rw [hk] at hnx2
            have HK := Lib.hid hk
            have HNX2 := Lib.hid hnx2
            clear hk hnx2 hq
            have hO8 := ZO.out.below hb78
            have ht8 := ZT.out.below hb78
            have hs8 : gk + 4 ≤ w8.heap.size := Nat.le_trans hWs7 hb78.size
            have hlt9 : wr.heap.size < (wr.alloc (.cells #[.func (.func 75) #[] #[], .func (.func 76) #[] #[]] 66)).heap.size := by simp
            have c9 : w8.cell? ⟨wr.heap.size, 1, none⟩ = some (.func (.func 76) #[] #[]) := cell_of_row w8 wr.heap.size 1 _ _ _ ((hb8.block _ hlt9).trans HN9.out)
            have HT := Lib.hid (tell3_any (gk + 4) (w.heap.size + 2) L np A c ws w8 hO8 (by omega) (by omega) hs8 ht8 hwc hwm)
            have HO8 := Lib.hid hO8
            have HT8 := Lib.hid ht8
            clear hO8 ht8 hlt9 hb8
            gi_wp2_with fail
            refine wide_call_in HT.out ?_
            rintro e w10 ⟨rfl, hO10, hT10⟩
            gi_wp2_with fail
            exact parse_next hz2 hWs hB Y1.out Y2.out YK.out ((TurnO.of_below (hb7.trans (hb78.mono hb7.size))).trans hT10) HBO.out hO10 (by rw [HNX2.out]; unfold tellK; rw [lnsX_append]; rfl) (by rw [List.length_append]; simp only [List.length_cons, List.length_nil]; omega)
          | false =>
            rw [hq] at hkd
            have hk : kindL ws ≠ 3 := of_decide_eq_false hkd.symm
            clear hkd hix
            have HK := Lib.hid (show 4 ≤ kindL ws by have := hmk.out; omega)
            clear hk hq
            gi_wp2_with fail
            refine ⟨⟨4, by go_num, by omega, HK.out, hb78⟩, ?_⟩
            simp [intOf]
      · obtain rfl : m = 4 := by omega
        have hk : kindL ws = 4 := Nat.le_antisymm (kindL_le ws) hmk.out
        have hnx2 := HNX.out
        unfold tellL at hnx2
        rw [hk] at hnx2
        have HNX2 := Lib.hid hnx2
        clear hk hnx2
        have r1 := (hbr.block _ (by omega)).trans Z1.out
        have r2 : Boxed wr (w.heap.size + 1) 27 (.int .i64 0) := (hbr.block _ (by omega)).trans Z2.out
        have p0 : wr.cell? ⟨w.heap.size, 0, none⟩ = some (.bool false) := cell_of_row _ _ 0 _ _ _ r1
        have p1 : wr.cell? ⟨w.heap.size, 1, none⟩ = some (.slice none 0 0) := cell_of_row _ _ 1 _ _ _ r1
        have p2 := r2.cell
        have f0 : wr.frozen? ⟨w.heap.size, 0, none⟩ = false := frozen_of_row _ _ _ _ _ r1
        have f1 : wr.frozen? ⟨w.heap.size, 1, none⟩ = false := frozen_of_row _ _ _ _ _ r1
        have f2 := r2.frozen
        have R1 := Lib.hid r1
        have R2 := Lib.hid r2
        clear r1 r2
        gi_wp2_with fail
        have hb7r : Below W.heap.size W wr := hb7.trans (hbr.mono hb7.size)
        refine ⟨(((KeepsOthers.of_below hb7r).trans (KeepsOthers.setAt _ R1.out)).trans ((KeepsOthers.setAt _ (heap_setCell_same _ _ 0 _ _ _ R1.out)).trans (KeepsOthers.setCell _ _ _))).from _, rfl, by unfold Hid; rw [HNX2.out]; rfl, ?_, ?_, ?_⟩
        · exact (heap_setCell_other _ _ _ _ (by show w.heap.size ≠ w.heap.size + 1; omega)).trans (heap_setCell_same _ _ 1 _ _ _ (heap_setCell_same _ _ 0 _ _ _ R1.out))
        · have h9 : Boxed ((wr.setCell ⟨w.heap.size, 0, none⟩ (.bool false)).setCell ⟨w.heap.size, 1, none⟩ (.slice none 0 0)) (w.heap.size + 1) 27 (.int .i64 0) := ((heap_setCell_other _ _ _ _ (by show w.heap.size + 1 ≠ w.heap.size; omega)).trans (heap_setCell_other _ _ _ _ (by show w.heap.size + 1 ≠ w.heap.size; omega))).trans R2.out
          exact h9.set _
        · exact (((zB.trans (hbr.mono zB.size)).setCell (p := ⟨w.heap.size, 0, none⟩) (Nat.le_refl _) _).setCell (p := ⟨w.heap.size, 1, none⟩) (Nat.le_refl _) _).setCell (p := ⟨w.heap.size + 1, 0, none⟩) (Nat.le_succ _) _
  case done =>
    rintro D W hD ⟨y1, y2, ⟨L, np, hst, hO, hLk⟩, hkk, hB⟩ hK
    have hWs : gk + 4 < W.heap.size := by have := (Array.getElem?_eq_some_iff.1 hK).1; omega
    obtain ⟨A, c, hb, hL⟩ := hO.slice
    have hpv : parseV s.data.toList = (0, (np, lnsX L)) := by
      have h1 := hst.out
      unfold parseTo at h1
      rw [List.take_of_length_le (by omega)] at h1
      unfold parseV
      rw [if_neg (by omega), h1]
    have HPV := Lib.hid hpv
    have HK := Lib.hid hK
    have HO := Lib.hid hO
    have HY1 := Lib.hid y1
    have HY2 := Lib.hid y2
    have c0 : W.cell? ⟨w.heap.size + 1 + 1, 0, none⟩ = some (.bool np) := cell_of_row _ _ 0 _ _ _ hb
    have c1 : W.cell? ⟨w.heap.size + 1 + 1, 1, none⟩ = some (.slice A L.length c) := cell_of_row _ _ 1 _ _ _ hb
    have p0 : W.cell? ⟨w.heap.size, 0, none⟩ = some (.bool false) := cell_of_row _ _ 0 _ _ _ y1
    have p1 : W.cell? ⟨w.heap.size, 1, none⟩ = some (.slice none 0 0) := cell_of_row _ _ 1 _ _ _ y1
    have p2 := y2.cell
    have f0 : W.frozen? ⟨w.heap.size, 0, none⟩ = false := frozen_of_row _ _ _ _ _ y1
    have f1 : W.frozen? ⟨w.heap.size, 1, none⟩ = false := frozen_of_row _ _ _ _ _ y1
    have f2 := y2.frozen
    have HBB := Lib.hid hb
    clear hst hpv hb hL hO hkk y1 y2 hK
    gi_wp2_with fail
    rw [Exit.noGoto_ret]
    have hD2 : D ≠ w.heap.size := by omega
    have hD3 : D ≠ w.heap.size + 1 := by omega
    have d1 : (((W.setCell ⟨w.heap.size, 0, none⟩ (.bool np)).setCell ⟨w.heap.size, 1, none⟩ (.slice A L.length c)).setCell ⟨w.heap.size + 1, 0, none⟩ (.int .i64 0)).heap[w.heap.size]? = some (.cells #[.bool np, .slice A L.length c] 24 (0, 0)) :=
      (heap_setCell_other _ _ _ _ (by show w.heap.size ≠ w.heap.size + 1; omega)).trans (heap_setCell_same _ _ 1 _ _ _ (heap_setCell_same _ _ 0 _ _ _ HY1.out))
    have d2 : Boxed (((W.setCell ⟨w.heap.size, 0, none⟩ (.bool np)).setCell ⟨w.heap.size, 1, none⟩ (.slice A L.length c)).setCell ⟨w.heap.size + 1, 0, none⟩ (.int .i64 0)) (w.heap.size + 1) 27 (.int .i64 0) := by
      have h9 : Boxed ((W.setCell ⟨w.heap.size, 0, none⟩ (.bool np)).setCell ⟨w.heap.size, 1, none⟩ (.slice A L.length c)) (w.heap.size + 1) 27 (.int .i64 0) := ((heap_setCell_other _ _ _ _ (by show w.heap.size + 1 ≠ w.heap.size; omega)).trans (heap_setCell_other _ _ _ _ (by show w.heap.size + 1 ≠ w.heap.size; omega))).trans HY2.out
      exact h9.set _
    have dK : (((W.setCell ⟨w.heap.size, 0, none⟩ (.bool np)).setCell ⟨w.heap.size, 1, none⟩ (.slice A L.length c)).setCell ⟨w.heap.size + 1, 0, none⟩ (.int .i64 0)).heap[D]? = some (.deferred (some [])) :=
      ((heap_setCell_other _ _ _ _ hD3).trans ((heap_setCell_other _ _ _ _ hD2).trans (heap_setCell_other _ _ _ _ hD2))).trans HK.out
    have dO : OwO (gk + 4) (w.heap.size + 2) L np (((W.setCell ⟨w.heap.size, 0, none⟩ (.bool np)).setCell ⟨w.heap.size, 1, none⟩ (.slice A L.length c)).setCell ⟨w.heap.size + 1, 0, none⟩ (.int .i64 0)) :=
      ((HO.out.kept (grownBy_cell _ w.heap.size 0 _) (fun r e => by cases e; exact ⟨by omega, .inl (by omega)⟩)).kept (grownBy_cell _ w.heap.size 1 _) (fun r e => by cases e; exact ⟨by omega, .inl (by omega)⟩)).kept (grownBy_cell _ (w.heap.size + 1) 0 _) (fun r e => by cases e; exact ⟨by omega, .inl (by omega)⟩)
    have dB : Below w.heap.size w (((W.setCell ⟨w.heap.size, 0, none⟩ (.bool np)).setCell ⟨w.heap.size, 1, none⟩ (.slice A L.length c)).setCell ⟨w.heap.size + 1, 0, none⟩ (.int .i64 0)) :=
      ((hB.setCell (p := ⟨w.heap.size, 0, none⟩) (Nat.le_refl _) _).setCell (p := ⟨w.heap.size, 1, none⟩) (Nat.le_refl _) _).setCell (p := ⟨w.heap.size + 1, 0, none⟩) (Nat.le_succ _) _
    have d3 : (((W.setCell ⟨w.heap.size, 0, none⟩ (.bool np)).setCell ⟨w.heap.size, 1, none⟩ (.slice A L.length c)).setCell ⟨w.heap.size + 1, 0, none⟩ (.int .i64 0)).heap[w.heap.size + 2]? = some (.cells #[.bool np, .slice A L.length c] 24 (0, 0)) :=
      ((heap_setCell_other _ _ _ _ (by show w.heap.size + 2 ≠ w.heap.size + 1; omega)).trans ((heap_setCell_other _ _ _ _ (by show w.heap.size + 2 ≠ w.heap.size; omega)).trans (heap_setCell_other _ _ _ _ (by show w.heap.size + 2 ≠ w.heap.size; omega)))).trans HBB.out
    generalize ((W.setCell ⟨w.heap.size, 0, none⟩ (.bool np)).setCell ⟨w.heap.size, 1, none⟩ (.slice A L.length c)).setCell ⟨w.heap.size + 1, 0, none⟩ (.int .i64 0) = V at *
    have e1 : (V.putObj D (.deferred none)).heap[w.heap.size]? = some (.cells #[.bool np, .slice A L.length c] 24 (0, 0)) := (World.putObj_heap_other hD2.symm).trans d1
    have e2 : Boxed (V.putObj D (.deferred none)) (w.heap.size + 1) 27 (.int .i64 0) := (World.putObj_heap_other hD3.symm).trans d2
    have e3 := dO.kept (grownBy_putObj' V D (.deferred none)) (fun r e => by
      cases e
      refine ⟨fun e => ?_, .inr ⟨_, dK, rfl⟩⟩
      obtain ⟨v, hv, _⟩ := dO.box
      rw [← e, dK] at hv; cases hv)
    obtain ⟨A', c', hb', hL'⟩ := e3.slice
    rw [(World.putObj_heap_other (fun e => by rw [e, dK] at d3; cases d3) : (V.putObj D (.deferred none)).heap[w.heap.size + 2]? = V.heap[w.heap.size + 2]?), d3] at hb'
    simp only [Option.some.injEq, Obj.cells.injEq, Array.mk.injEq, List.cons.injEq, Value.slice.injEq, true_and, and_true] at hb'
    obtain ⟨rfl, rfl⟩ := hb'
    have c5 : (V.putObj D (.deferred none)).cell? ⟨w.heap.size, 0, none⟩ = some (.bool np) := cell_of_row _ _ 0 _ _ _ e1
    have c6 : (V.putObj D (.deferred none)).cell? ⟨w.heap.size, 1, none⟩ = some (.slice A L.length c) := cell_of_row _ _ 1 _ _ _ e1
    have c7 := e2.cell
    refine ⟨by simp, .inl ⟨_, _, rfl, run_takeDeferred dK, ?_⟩⟩
    refine ⟨.tuple #[owV np A L.length c, .int .i64 0], by simp [results, Tryz.f13, go_sem, c5, c6, c7]; rfl, ?_⟩
    refine ⟨_, by rw [HPV.out], ?_, dB.trans (belowK_b (w := w) (Nat.le_refl _) V D _ (.deferred none) (by omega) dK rfl rfl)⟩
    rw [HPV.out]
    exact ⟨A, c, L, rfl, hL', rfl⟩
  case stop =>
    rintro D c k W hD hk ⟨rfl, hst, y1, y2, hB⟩ hK
    have hpv : parseV s.data.toList = (11, emptyO) := by
      have h1 := parseL_take _ k hst.out
      unfold parseV
      rw [if_neg (by omega), h1]
    have p0 : W.cell? ⟨w.heap.size, 0, none⟩ = some (.bool false) := cell_of_row _ _ 0 _ _ _ y1
    have p1 : W.cell? ⟨w.heap.size, 1, none⟩ = some (.slice none 0 0) := cell_of_row _ _ 1 _ _ _ y1
    have p2 := y2.cell
    have HK := Lib.hid hK
    have HPV := Lib.hid hpv
    have HY1 := Lib.hid y1
    have HY2 := Lib.hid y2
    clear hK hpv hst y1 y2
    gi_wp2_with fail
    rw [Exit.noGoto_ret]
    have hD2 : D ≠ w.heap.size := by omega
    have hD3 : D ≠ w.heap.size + 1 := by omega
    have e1 : (W.putObj D (.deferred none)).heap[w.heap.size]? = some (.cells #[.bool false, .slice none 0 0] 24 (0, 0)) := (World.putObj_heap_other hD2.symm).trans HY1.out
    have e2 : Boxed (W.putObj D (.deferred none)) (w.heap.size + 1) 27 (.int .i64 11) := (World.putObj_heap_other hD3.symm).trans HY2.out
    have c5 : (W.putObj D (.deferred none)).cell? ⟨w.heap.size, 0, none⟩ = some (.bool false) := cell_of_row _ _ 0 _ _ _ e1
    have c6 : (W.putObj D (.deferred none)).cell? ⟨w.heap.size, 1, none⟩ = some (.slice none 0 0) := cell_of_row _ _ 1 _ _ _ e1
    have c7 := e2.cell
    refine ⟨by simp, .inl ⟨_, _, rfl, run_takeDeferred HK.out, ?_⟩⟩
    refine ⟨.tuple #[owV false none 0 0, .int .i64 11], by simp [results, Tryz.f13, go_sem, c5, c6, c7]; rfl, ?_⟩
    refine ⟨_, by rw [HPV.out], ?_, hB.trans (belowK_b (w := w) (Nat.le_refl _) W D _ (.deferred none) (by omega) HK.out rfl rfl)⟩
    rw [HPV.out]
    exact OwAt.empty _

set_option maxRecDepth 100000 in
set_option maxHeartbeats 2000000 in
theorem parse_long (s : ByteArray) (w : World) (hs : s.size ≤ maxLen) (hl : 16384 < s.size) :
    Calls Tryz.prog 13 #[.string s] w (ParsePost s.data.toList w) := by
  unfold maxLen at hs
  have hs1 : (16384 : Int) < (s.size : Int) := by omega
  have hpv : parseV s.data.toList = (3, emptyO) := by
    unfold parseV
    rw [if_pos (by rw [Array.length_toList]; exact hl)]
  have HPV := Lib.hid hpv
  clear hpv hl
  refine (callsIn_wide (n := 3)).1 ?_
  generalize 3 = n
  refine callsIn_of_wp_marks Tryz.func13 rfl trivial ?_ rfl
  simp only [Tryz.ntmps13, List.size_toArray, List.length_cons, List.length_nil, Nat.reduceAdd, Nat.reduceSub, Array.replicate_succ, Array.replicate_zero, List.push_toArray, List.append_toArray, List.nil_append, List.cons_append]
  gi_wp2_with fail
  refine wpIn_scope_wide ?_
  gi_wp2_with fail
  rw [Exit.noGoto_ret]
  refine ⟨.tuple #[owV false none 0 0, .int .i64 3], ?_, ?_⟩
  · simp [results, Tryz.f13, go_sem]; rfl
  · exact ⟨_, by rw [HPV.out], by rw [HPV.out]; exact OwAt.empty _, (((Below.refl _ w).alloc (Nat.le_refl _) _).alloc (by simp) _)⟩
theorem parse_all (s : ByteArray) (w : World) (hs : s.size ≤ maxLen) (hm : MaxOk w) (hT : TabsOk w) :
    Calls Tryz.prog 13 #[.string s] w (ParsePost s.data.toList w) := by
  by_cases h : s.size ≤ 16384
  · exact parse_any s w h hm hT
  · exact parse_long s w hs (by omega)
end Go.Proofs.YtkihgbggndikpaaGreatDoor
