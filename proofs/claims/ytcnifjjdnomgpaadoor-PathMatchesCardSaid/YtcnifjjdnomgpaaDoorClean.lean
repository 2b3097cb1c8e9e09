/-
  The contract of path.Clean.
-/
import Derived.Test.YtcnifjjdnomgpaaDoorConsists
import Derived.Maps.AppendAt
import Derived.WalkSmall
import Derived.WalkMore
namespace Go.Proofs.YtcnifjjdnomgpaaDoor
open Go Go.RowKit Go.Shelf Go.Proofs
attribute [local go_sem] Oper.semAt_some

theorem wpIn_scope_wide {n : Nat} {P : Program} {c : Code} {Q : Exit → Act → World → Prop} {a : Act} {w : World} (h : c.wpIn Fence.wide n P (Exit.noGoto Q) a w) : (Code.scope c).wpIn Fence.wide n P Q a w := wpIn_wide.2 (wp_scope_straight (wpIn_wide.1 h))

theorem string_info : (Tryd.prog.info? 9).map (fun i => (i.zero, i.size, i.bytes)) = some (some (.string ⟨#[]⟩), 1, 16) := by kernel_rfl

def strV (b : Bs) : Value := .string (mkB b)
def strVs (ns : List Bs) : List Value := ns.map strV

/-- The box B holds a slice of the call's own, from block b on, that reads ns. -/
def Names (b B : Nat) (ns : List Bs) (W : World) : Prop := ∃ v, Boxed W B 50 v ∧ W.ownsRow b 9 1 v ns.length (strVs ns)

theorem ownsRow_slice {w : World} {base e size n : Nat} {v : Value} {xs : List Value} (h : w.ownsRow base e size v n xs) : ∃ a c, v = .slice a n c ∧ n ≤ c ∧ c ≤ maxLen := by
  rcases h.2 with ⟨rfl, rfl⟩ | ⟨g, c, _, rfl, _, _, hc, hm, _⟩
  · exact ⟨none, 0, rfl, Nat.le_refl _, Nat.zero_le _⟩
  · exact ⟨_, c, rfl, hc, hm⟩

theorem names_kept {T : Nat → Prop} {b B B0 : Nat} {ns : List Bs} (_hB : B < b) (hT : ¬ T B) (hT2 : ∀ r, T r → r < b) {X Y : World} {row : Option Nat} (h : Names b B ns X) (hg : X.grownBy Y row)
    (hrow : ∀ r, row = some r → T r ∨ (B0 ≤ r ∧ ∃ o : Obj, X.heap[r]? = some o ∧ o.isCells = false)) : Names b B ns Y := by
  obtain ⟨v, hv, hr⟩ := h
  refine ⟨v, hv.kept hg (fun e => ?_), hr.kept hg ?_⟩
  · rcases hrow B e.symm with h | ⟨h, o, ho, hc⟩
    · exact hT h
    · rw [show X.heap[B]? = _ from hv] at ho; cases ho; cases hc
  · rcases hr.2 with ⟨rfl, _⟩ | ⟨g, cap, cur, rfl, hbg, hgb, _⟩
    · exact .inl rfl
    · refine .inr fun e => ?_
      rcases hrow g (by simpa [Value.ownBlock] using e.symm) with h | ⟨h, o, ho, hc⟩
      · have := hT2 g h; omega
      · rw [hgb] at ho; cases ho; cases hc

theorem row_ge {w : World} {b e size n g : Nat} {v : Value} {xs : List Value} (h : w.ownsRow b e size v n xs) (hg : v.ownBlock = some g) : b ≤ g ∧ ∃ cur, w.heap[g]? = some (.cells cur e (0, 0)) := by
  rcases h.2 with ⟨rfl, _⟩ | ⟨g', cap, cur, rfl, hbg, hgb, _⟩
  · simp [Value.ownBlock] at hg
  · obtain rfl : g' = g := by simpa [Value.ownBlock] using hg
    exact ⟨hbg, cur, hgb⟩

/-- Behind an append to the slice in box B, and the store back. -/
theorem names_push {W w1 : World} {n₀ b B t e k m : Nat} {v v' : Value} {tmp : Obj} {xs ys : List Value} (hte : t ≠ e) (hv : Boxed W B t v) (hrow : W.ownsRow b e 1 v k xs) (hb : b ≤ W.heap.size) (h0 : n₀ ≤ B) (hB : B < b)
    (hown' : w1.ownsRow b e 1 v' m ys) (hgrow : (W.alloc tmp).grownBy w1 v.ownBlock) :
    Boxed w1 B t v ∧ Boxed (w1.setCell ⟨B, 0, none⟩ v') B t v' ∧ (w1.setCell ⟨B, 0, none⟩ v').ownsRow b e 1 v' m ys ∧ KeepsOthers W (w1.setCell ⟨B, 0, none⟩ v') ∧
      (∀ j, j < b → j ≠ B → (w1.setCell ⟨B, 0, none⟩ v').heap[j]? = W.heap[j]?) ∧ Below n₀ W (w1.setCell ⟨B, 0, none⟩ v') := by
  have hv1 : Boxed w1 B t v := (hv.alloc tmp).kept hgrow (hv.not_row hte hrow)
  refine ⟨hv1, hv1.set v', hown'.kept (grownBy_setCell' w1 B v') (.inr (hv1.not_row hte hown').symm), ?_, ?_, ?_⟩
  · refine ((KeepsOthers.alloc W tmp).trans (KeepsOthers.of_grownBy hgrow fun j o ej hj => ?_)).trans (KeepsOthers.setCell _ _ _)
    obtain ⟨_, cur, hc⟩ := row_ge (hrow.alloc tmp) ej
    rw [hc] at hj; cases hj; rfl
  · intro j hj hne
    refine (Below.heap_setCell _ _ _ j hne).trans ((hgrow.block j (by simp; omega) (fun e => ?_)).trans (Below.heap_alloc _ _ _ (by omega)))
    have := (row_ge hrow e.symm).1
    omega
  · refine (((Below.refl n₀ W).alloc (by omega) tmp).grown hgrow (by simp; omega) fun j ej => ?_).setCell (p := ⟨B, 0, none⟩) h0 v'
    have := (row_ge hrow ej).1
    omega

theorem join_names (b : Nat) (v : Value) (ns : List Bs) (W : World) (h : W.ownsRow b 9 1 v ns.length (strVs ns)) (hw : wide ns ≤ 140737488355328) :
    Calls Tryd.prog 61 #[v, .string ⟨#[47]⟩] W fun e w' => e = .returned (.string (mkB (joinL ns))) ∧ Below W.heap.size W w' := by
  have hl := wide_length ns
  have hj := join_le ns
  rcases h.2 with ⟨rfl, h0⟩ | ⟨g, cp, cur, rfl, _, hh, hc, _, _, _⟩
  · obtain rfl : ns = [] := List.eq_nil_of_length_eq_zero h0
    exact (Tryd.strings_Join_none none 0 ⟨#[47]⟩ W).mono fun e w' ⟨he, hw⟩ => ⟨he, hw ▸ Below.refl _ _⟩
  · have e1 : (ns.map mkB).map (·.data.toList) = ns := by
      rw [List.map_map]
      exact (List.map_congr_left (fun a _ => mkB_data a)).trans (List.map_id _)
    have hlen : (ns.map mkB).length = ns.length := List.length_map ..
    have := Tryd.strings_Join g 0 cp (ns.map mkB) ⟨#[47]⟩ W (fun j x hx => by
      have hc := h.cells (g := g) rfl j (.string x) (by
        unfold strVs strV
        rw [List.getElem?_map] at hx ⊢
        cases e : ns[j]? with
        | none => rw [e] at hx; cases hx
        | some p => rw [e] at hx; cases hx; rfl)
      unfold Addr.add at hc
      split at hc
      · rename_i hz; subst hz; exact hc
      · exact hc) (Array.getElem?_eq_some_iff.1 hh).1 (by rw [hlen]; omega) (by rw [hlen]; omega) (by rw [e1]; unfold joinL at hj; exact Nat.le_trans hj hw)
    rw [hlen, e1] at this
    exact this

def cleanV (s : Bs) : Value := match cleanB s with
  | none => .tuple #[.string ⟨#[]⟩, .int .i64 4]
  | some t => .tuple #[.string (mkB t), .int .i64 0]

theorem cleanV_some (s : Bs) (ns : List Bs) (h : sweepN (splitL 47 s) = some ns) : cleanV s = if rightB (joinL ns) then .tuple #[.string (mkB (joinL ns)), .int .i64 0] else .tuple #[.string ⟨#[]⟩, .int .i64 4] := by
  unfold cleanV cleanB
  rw [h]
  cases hr : rightB (joinL ns) <;> simp [hr]

def sweepTo (s : ByteArray) (k : Nat) : Option (List Bs) := sweepN ((splitL 47 s.data.toList).take k)

theorem sweepTo_succ (s : ByteArray) (k : Nat) (x : ByteArray) (ns : List Bs) (hx : (piecesB 47 s)[k]? = some x) (h : sweepTo s k = some ns) : sweepTo s (k + 1) = stepN ns x.data.toList := by
  unfold sweepTo at h ⊢
  unfold piecesB at hx
  rw [List.getElem?_map] at hx
  cases e : (splitL 47 s.data.toList)[k]? with
  | none => rw [e] at hx; cases hx
  | some p =>
    rw [e] at hx
    cases hx
    rw [List.take_add_one, e, Option.toList_some, sweepN_snoc, h, mkB_data]
    rfl

theorem sweepTo_length (s : ByteArray) (k : Nat) (ns : List Bs) (h : sweepTo s k = some ns) : ns.length ≤ s.size + 1 ∧ wide ns ≤ s.size + 1 := by
  unfold sweepTo at h
  have h1 := wide_sweep _ _ h
  have h2 := wide_take (splitL 47 s.data.toList) k
  have h3 := wide_splitL 47 s.data.toList
  have h4 := wide_length ns
  have h5 : s.data.toList.length = s.size := by rw [Array.length_toList]; rfl
  omega

set_option maxRecDepth 100000 in
set_option maxHeartbeats 4000000 in
theorem clean_any (s : ByteArray) (w : World) (hs : s.size ≤ 1000000) (hm : MaxOk w) :
    Calls Tryd.prog 31 #[.string s] w fun e w' => e = .returned (cleanV s.data.toList) ∧ Below w.heap.size w w' := by
  obtain ⟨i0, hi, hz0, hz1, hz2⟩ := info_parts string_info
  refine (callsIn_wide (n := 3)).1 ?_
  generalize 3 = n
  refine callsIn_of_wp_marks Tryd.func31 rfl trivial ?_ rfl
  simp only [Tryd.ntmps31, List.size_toArray, List.length_cons, List.length_nil, Nat.reduceAdd, Nat.reduceSub, Array.replicate_succ, Array.replicate_zero, List.push_toArray, List.append_toArray, List.nil_append, List.cons_append]
  gi_wp2
  refine wpIn_scope_wide ?_
  gi_wp2
  refine wpIn_label ?_
  gi_wp2_with (refine wide_call (splitSeq_any s ⟨#[47]⟩ _) ?_; rintro e w' ⟨rfl, rfl⟩)
  obtain ⟨W0, hW0⟩ : ∃ W0, (((((w.alloc (.cells #[.string ⟨#[]⟩] 9)).alloc (.cells #[.int .i64 0] 30)).alloc (.cells #[.slice none 0 0] 50)).alloc (.cells #[.string s] 9)).alloc (.cells #[.string ⟨#[47]⟩] 9)).alloc (.cells #[.int .i64 0] 3) = W0 := ⟨_, rfl⟩
  have hs0 : W0.heap.size = w.heap.size + 6 := by rw [← hW0]; simp
  have x0 : Boxed W0 w.heap.size 9 (.string ⟨#[]⟩) := by rw [← hW0]; exact (((((Boxed.new w _ _).alloc _).alloc _).alloc _).alloc _).alloc _
  have x1 : Boxed W0 (w.heap.size + 1) 30 (.int .i64 0) := by
    rw [← hW0]; have := Boxed.new (w.alloc (.cells #[.string ⟨#[]⟩] 9)) 30 (.int .i64 0); simp only [World.size_alloc] at this; exact (((this.alloc _).alloc _).alloc _).alloc _
  have x2 : Boxed W0 (w.heap.size + 2) 50 (.slice none 0 0) := by
    rw [← hW0]; have := Boxed.new ((w.alloc (.cells #[.string ⟨#[]⟩] 9)).alloc (.cells #[.int .i64 0] 30)) 50 (.slice none 0 0); simp only [World.size_alloc] at this; exact ((this.alloc _).alloc _).alloc _
  have x3 : Boxed W0 (w.heap.size + 3) 9 (.string s) := by
    rw [← hW0]; have := Boxed.new (((w.alloc (.cells #[.string ⟨#[]⟩] 9)).alloc (.cells #[.int .i64 0] 30)).alloc (.cells #[.slice none 0 0] 50)) 9 (.string s); simp only [World.size_alloc] at this; exact (this.alloc _).alloc _
  have x4 : Boxed W0 (w.heap.size + 4) 9 (.string ⟨#[47]⟩) := by
    rw [← hW0]; have := Boxed.new ((((w.alloc (.cells #[.string ⟨#[]⟩] 9)).alloc (.cells #[.int .i64 0] 30)).alloc (.cells #[.slice none 0 0] 50)).alloc (.cells #[.string s] 9)) 9 (.string ⟨#[47]⟩); simp only [World.size_alloc] at this; exact this.alloc _
  have x5 : Boxed W0 (w.heap.size + 5) 3 (.int .i64 0) := by
    rw [← hW0]; have := Boxed.new (((((w.alloc (.cells #[.string ⟨#[]⟩] 9)).alloc (.cells #[.int .i64 0] 30)).alloc (.cells #[.slice none 0 0] 50)).alloc (.cells #[.string s] 9)).alloc (.cells #[.string ⟨#[47]⟩] 9)) 3 (.int .i64 0); simp only [World.size_alloc] at this; exact this
  have hB0 : Below w.heap.size w W0 := by
    rw [← hW0]; exact ((((((Below.refl _ w).alloc (Nat.le_refl _) _).alloc (by simp) _).alloc (by simp; omega) _).alloc (by simp; omega) _).alloc (by simp; omega) _).alloc (by simp; omega) _
  rw [hW0]
  clear hW0
  refine wpIn_rangeList rfl (fun h => absurd h (by decide)) (gf := 101) (lb := #[.pointer (some ⟨w.heap.size + 4, 0, none⟩), .pointer (some ⟨w.heap.size + 3, 0, none⟩), .pointer (some ⟨w.heap.size + 5, 0, none⟩)]) rfl trivial (enters_of Tryd.func101 (by kernel_rfl) rfl)
    (split_list _ (w.heap.size + 3) (w.heap.size + 4) (w.heap.size + 5) 47 s (by omega) W0 (by omega) (by omega) x3 x4 x5) KeepsB.trans (keepsB_b (by rintro k (rfl | rfl | rfl) <;> omega)) (by rintro r rfl; omega) (Below.refl _ _) (fun _ => rfl)
    (fun k W => Boxed W w.heap.size 9 (.string ⟨#[]⟩) ∧ Boxed W (w.heap.size + 1) 30 (.int .i64 0) ∧ (∃ ns, Hid (sweepTo s k = some ns) ∧ Names (w.heap.size + 6) (w.heap.size + 2) ns W) ∧ Below w.heap.size w W)
    (fun c k W => Boxed W w.heap.size 9 (.string ⟨#[]⟩) ∧ Boxed W (w.heap.size + 1) 30 (.int .i64 4) ∧ (c = .ret ∧ sweepTo s k = none) ∧ Below w.heap.size w W)
    (OwnTo.and (OwnTo.block (o := fun _ => .cells #[.string ⟨#[]⟩] 9) (by omega) (by unfold OnlyS; omega)) (OwnTo.and (OwnTo.block (o := fun _ => .cells #[.int .i64 0] 30) (by omega) (by unfold OnlyS; omega))
      (OwnTo.and (fun _ _ _ _ hs hg hr => hs.imp fun ns h => ⟨h.1, names_kept (by omega) (by unfold OnlyS; omega) (by rintro r rfl; omega) h.2 hg hr⟩) (OwnTo.below (Nat.le_refl _) (by omega) (by rintro r rfl; omega)))))
    (fun c => OwnTo.and (OwnTo.block (o := fun _ => .cells #[.string ⟨#[]⟩] 9) (by omega) (by unfold OnlyS; omega)) (OwnTo.and (OwnTo.block (o := fun _ => .cells #[.int .i64 4] 30) (by omega) (by unfold OnlyS; omega)) (OwnTo.and (OwnTo.pure _ _ _) (OwnTo.below (Nat.le_refl _) (by omega) (by rintro r rfl; omega)))))
    ⟨x0, x1, ⟨[], rfl, _, x2, World.ownsRow_nil _ _ _ _⟩, hB0⟩
    (fun x a' _ => a' = { tmps := #[.string s, undef, .pointer (some ⟨w.heap.size, 0, none⟩), .pointer (some ⟨w.heap.size + 1, 0, none⟩), .pointer (some ⟨w.heap.size + 2, 0, none⟩), .string x, undef, .string s, .func (.func 101) #[] #[.pointer (some ⟨w.heap.size + 4, 0, none⟩), .pointer (some ⟨w.heap.size + 3, 0, none⟩), .pointer (some ⟨w.heap.size + 5, 0, none⟩)], .string x, undef, undef, undef, undef, undef, undef, undef, undef, undef, undef, undef, undef, undef, undef, undef, undef, undef, undef, undef, undef, undef, undef, undef, undef], defers := [] }) (fun _ _ _ _ _ _ hs _ _ => hs) ?assign ?body ?done ?stop
  case assign =>
    intro l k x W K hi hK
    gi_wp2
    exact hK _ _ (KeepsFrom.refl _ _) (KeepsB.refl _ _) hi rfl
  case body =>
    rintro l k x a' W hl ⟨rl, hrl⟩ ⟨y0, y1, ⟨ns, hsw, v, hv, hrow⟩, hB⟩ rfl hx
    have hWs : w.heap.size + 6 ≤ W.heap.size := by have := (Array.getElem?_eq_some_iff.1 hrl).1; omega
    clear hrl
    have hst := sweepTo_succ s k x ns hx hsw.out
    have hk := sweepTo_length s k ns hsw.out
    have c0 := y0.cell
    have f0 := y0.frozen
    have c1 := y1.cell
    have f1 := y1.frozen
    have c2 := hv.cell
    have f2 := hv.frozen
    have HX := Lib.hid hx; clear hx
    by_cases h1 : x.toList = [46, 46]
    · have g1 : (x.toList == [46, 46]) = true := by simp [h1]
      have h1' : x.data.toList = [46, 46] := by rw [← ByteArray.toList_eq]; exact h1
      clear h1
      rcases List.eq_nil_or_concat ns with rfl | ⟨ms, p, rfl⟩
      · obtain ⟨a, cp, rfl, _, _⟩ := ownsRow_slice hrow
        have hs2 : sweepTo s (k + 1) = none := by rw [hst, h1']; rfl
        have HS := Lib.hid hs2; clear hst hs2 h1'
        have HR := Lib.hid hrow; clear hrow
        gi_wp2
        refine ⟨((KeepsOthers.setCell _ _ _).trans (KeepsOthers.setCell _ _ _)).from _, ?_, ?_, ⟨rfl, HS.out⟩, ?_⟩
        · exact (y0.set _).other (by omega) _
        · exact (y1.other (by omega) _).set _
        · exact (hB.setCell (p := ⟨w.heap.size, 0, none⟩) (Nat.le_refl _) _).setCell (p := ⟨w.heap.size + 1, 0, none⟩) (Nat.le_succ _) _
      · simp only [List.concat_eq_append] at hrow hst hk hsw
        have hlen : (ms ++ [p]).length = ms.length + 1 := by simp
        rw [hlen] at hrow hk
        obtain ⟨g, cp, rfl⟩ := ownsRow_succ hrow
        obtain ⟨_, _, hvv, hcp, hcm⟩ := ownsRow_slice hrow
        cases hvv
        have hs2 : sweepTo s (k + 1) = some ms := by rw [hst, h1']; simp [stepN]
        have hpop := ownsRow_pop (size := 1) (xs := strVs ms) (last := [strV p]) (n := ms.length) (by simp [strVs]) (by simpa [strVs] using hrow)
        have HS := Lib.hid hs2; clear hst hs2 h1'
        have HP := Lib.hid hpop; clear hpop
        have HR := Lib.hid hrow; clear hrow
        have HN := Lib.hid hlen; clear hlen
        have hcm' : cp ≤ 9223372036854775807 := hcm
        clear hcm
        gi_wp2
        refine ⟨(KeepsOthers.setCell _ _ _).from _, KeepsB.setCell _ _ _ (by unfold KeepThree; omega), y0.other (by omega) _, y1.other (by omega) _, ⟨ms, HS.out, _, hv.set _, ?_⟩, hB.setCell (p := ⟨w.heap.size + 2, 0, none⟩) (by show w.heap.size ≤ w.heap.size + 2; omega) _⟩
        exact HP.out.kept (grownBy_setCell' _ _ _) (.inr (hv.not_row (by decide) HP.out).symm)
    · have g1 : (x.toList == [46, 46]) = false := by simpa using h1
      have h1' : (x.data.toList == [46, 46]) = false := by rw [← ByteArray.toList_eq]; exact g1
      by_cases h2 : x.toList = []
      · have g2 : x.toList.isEmpty = true := by simp [h2]
        have hs2 : sweepTo s (k + 1) = some ns := by rw [hst]; unfold stepN; rw [h1', ← ByteArray.toList_eq, h2]; rfl
        have HS := Lib.hid hs2; clear hst hs2 h1'
        clear h1 h2
        gi_wp2
        exact ⟨KeepsFrom.refl _ _, KeepsB.refl _ _, y0, y1, ⟨ns, HS.out, v, hv, hrow⟩, hB⟩
      · have g2 : x.toList.isEmpty = false := by simpa using h2
        have h2' : (x.data.toList == []) = false := by rw [← ByteArray.toList_eq]; simpa using h2
        by_cases h3 : x.toList = [46]
        · have g3 : (x.toList == [46]) = true := by simp [h3]
          have hs2 : sweepTo s (k + 1) = some ns := by rw [hst]; unfold stepN; rw [h1', ← ByteArray.toList_eq, h3]; rfl
          have HS := Lib.hid hs2; clear hst hs2 h1' h2'
          clear h1 h2 h3
          gi_wp2
          exact ⟨KeepsFrom.refl _ _, KeepsB.refl _ _, y0, y1, ⟨ns, HS.out, v, hv, hrow⟩, hB⟩
        · have g3 : (x.toList == [46]) = false := by simpa using h3
          have h3' : (x.data.toList == [46]) = false := by rw [← ByteArray.toList_eq]; exact g3
          have hs2 : sweepTo s (k + 1) = some (ns ++ [x.data.toList]) := by rw [hst]; unfold stepN; rw [h1', h2', h3']; rfl
          have HS := Lib.hid hs2; clear hst hs2 h1' h2' h3'
          clear h1 h2 h3
          gi_wp2_with (gi_at_builtin; refine wpListIn_append_own _ rfl _ _ 50 rfl (w.heap.size + 6) 9 i0 (.string ⟨#[]⟩) 1 16 Tryd.underlying50 hi hz0 hz1 hz2 rfl (by decide) _ _ _ rfl (hrow.alloc _) ⟨W.heap.size, 0, none⟩ 1 1 [.string x] rfl rfl (cell_one_new _ _ _) (by simp [Value.oneCell']) (by unfold maxLen; omega) (by omega) (by simp; omega) ?_; intro v' w1 hown' hgrow _; obtain ⟨g', cap', rfl⟩ := ownsRow_succ hown'; obtain ⟨hv1, hv2, hr2, hk2, hsame, hb2⟩ := names_push (n₀ := w.heap.size) (by decide) hv hrow hWs (by omega) (by omega) hown' hgrow; have hc1 := hv1.cell; have hf1 := hv1.frozen)
          refine ⟨hk2.from _, ⟨hk2.size, ?_⟩, ?_, ?_, ⟨_, HS.out, _, hv2, ?_⟩, hB.trans hb2⟩
          · rintro j (rfl | rfl | rfl) _ <;> exact hsame _ (by omega) (by omega)
          · exact (hsame _ (by omega) (by omega)).trans y0
          · exact (hsame _ (by omega) (by omega)).trans y1
          · have e1 : (ns ++ [x.data.toList]).length = ns.length + 1 := by simp
            have e2 : strVs (ns ++ [x.data.toList]) = strVs ns ++ [.string x] := by simp [strVs, strV, data_mkB]
            rw [e1, e2]; exact hr2
  case done =>
    rintro D W hD ⟨y0, y1, ⟨ns, hsw, v, hv, hrow⟩, hB⟩ hK
    have hWs : w.heap.size + 6 < W.heap.size := by have := (Array.getElem?_eq_some_iff.1 hK).1; omega
    have hk := sweepTo_length s _ ns hsw.out
    have hsw' : sweepN (splitL 47 s.data.toList) = some ns := by
      have := hsw.out; unfold sweepTo piecesB at this
      rwa [List.length_map, List.take_length] at this
    have c2 := hv.cell
    have hjl := join_le ns
    have hjs : (mkB (joinL ns)).size ≤ maxLen := by rw [mkB_size]; unfold maxLen; omega
    have HJ := Lib.hid hjs
    have HW := Lib.hid hsw'; clear hsw' hsw hjs
    have hm1 := hm.below hB
    have hr0 := cleanV_some _ ns HW.out
    have hDl : D < W.heap.size := (Array.getElem?_eq_some_iff.1 hK).1
    cases hr : rightB (joinL ns) with
    | false =>
      have hr2 : rightB (mkB (joinL ns)).data.toList = false := by rw [mkB_data]; exact hr
      have HR := Lib.hid hr2; clear hr2
      rw [hr] at hr0
      have HC := Lib.hid hr0; clear hr0 hr
      gi_wp2_with (first
        | (refine wide_call (join_names (w.heap.size + 6) v ns W hrow (by omega)) ?_; rintro e W1 ⟨rfl, hb1⟩)
        | (refine wide_call (right_any (mkB (joinL ns)) W1 HJ.out (hm1.below hb1)) ?_; rintro e W2 ⟨rfl, hb2⟩; rw [HR.out]; have hb3 := hb1.trans (hb2.mono hb1.size); have z0 : Boxed W2 w.heap.size 9 (.string ⟨#[]⟩) := (hb3.block _ (by omega)).trans y0; have z1 : Boxed W2 (w.heap.size + 1) 30 (.int .i64 0) := (hb3.block _ (by omega)).trans y1; have d0 := z0.cell; have g0 := z0.frozen; have d1 := z1.cell; have g1 := z1.frozen))
      rw [Exit.noGoto_ret]
      have hK2 := (hb3.block D hDl).trans hK
      have hK3 := ((KeepsOthers.setCell W2 ⟨w.heap.size, 0, none⟩ (.string ⟨#[]⟩)).trans (KeepsOthers.setCell _ ⟨w.heap.size + 1, 0, none⟩ (.int .i64 4))).same D _ hK2 rfl
      have w0 := (((z0.set (.string ⟨#[]⟩)).other (B' := w.heap.size + 1) (by omega) (.int .i64 4))).kept (grownBy_putObj' _ D (.deferred none)) (by simp; omega)
      have w1 := (((z1.other (B' := w.heap.size) (by omega) (.string ⟨#[]⟩)).set (.int .i64 4))).kept (grownBy_putObj' _ D (.deferred none)) (by simp; omega)
      have c5 := w0.cell
      have c6 := w1.cell
      refine ⟨by simp, .inl ⟨_, _, rfl, run_takeDeferred hK3, ?_⟩⟩
      refine ⟨.tuple #[.string ⟨#[]⟩, .int .i64 4], by simp [results, Tryd.f31, go_sem, c5, c6], by rw [HC.out]; rfl, ?_⟩
      exact ((hB.trans (hb3.mono hB.size)).setCell (p := ⟨w.heap.size, 0, none⟩) (Nat.le_refl _) _).setCell (p := ⟨w.heap.size + 1, 0, none⟩) (Nat.le_succ _) _ |>.trans (belowK_b (w := w) (Nat.le_refl _) _ D _ _ (by omega) hK3 rfl rfl)
    | true =>
      have hr2 : rightB (mkB (joinL ns)).data.toList = true := by rw [mkB_data]; exact hr
      have HR := Lib.hid hr2; clear hr2
      rw [hr] at hr0
      have HC := Lib.hid hr0; clear hr0 hr
      gi_wp2_with (first
        | (refine wide_call (join_names (w.heap.size + 6) v ns W hrow (by omega)) ?_; rintro e W1 ⟨rfl, hb1⟩)
        | (refine wide_call (right_any (mkB (joinL ns)) W1 HJ.out (hm1.below hb1)) ?_; rintro e W2 ⟨rfl, hb2⟩; rw [HR.out]; have hb3 := hb1.trans (hb2.mono hb1.size); have z0 : Boxed W2 w.heap.size 9 (.string ⟨#[]⟩) := (hb3.block _ (by omega)).trans y0; have z1 : Boxed W2 (w.heap.size + 1) 30 (.int .i64 0) := (hb3.block _ (by omega)).trans y1; have d0 := z0.cell; have g0 := z0.frozen; have d1 := z1.cell; have g1 := z1.frozen))
      rw [Exit.noGoto_ret]
      have hK2 := (hb3.block D hDl).trans hK
      have hK3 := ((KeepsOthers.setCell W2 ⟨w.heap.size, 0, none⟩ (.string (mkB (joinL ns)))).trans (KeepsOthers.setCell _ ⟨w.heap.size + 1, 0, none⟩ (.int .i64 0))).same D _ hK2 rfl
      have w0 := (((z0.set (.string (mkB (joinL ns)))).other (B' := w.heap.size + 1) (by omega) (.int .i64 0))).kept (grownBy_putObj' _ D (.deferred none)) (by simp; omega)
      have w1 := (((z1.other (B' := w.heap.size) (by omega) (.string (mkB (joinL ns)))).set (.int .i64 0))).kept (grownBy_putObj' _ D (.deferred none)) (by simp; omega)
      have c5 := w0.cell
      have c6 := w1.cell
      refine ⟨by simp, .inl ⟨_, _, rfl, run_takeDeferred hK3, ?_⟩⟩
      refine ⟨.tuple #[.string (mkB (joinL ns)), .int .i64 0], by simp [results, Tryd.f31, go_sem, c5, c6], by rw [HC.out]; rfl, ?_⟩
      exact ((hB.trans (hb3.mono hB.size)).setCell (p := ⟨w.heap.size, 0, none⟩) (Nat.le_refl _) _).setCell (p := ⟨w.heap.size + 1, 0, none⟩) (Nat.le_succ _) _ |>.trans (belowK_b (w := w) (Nat.le_refl _) _ D _ _ (by omega) hK3 rfl rfl)
  case stop =>
    rintro D c k W hD hk ⟨y0, y1, ⟨rfl, hno⟩, hB⟩ hK
    have c0 := y0.cell
    have c1 := y1.cell
    have hno' : cleanV s.data.toList = .tuple #[.string ⟨#[]⟩, .int .i64 4] := by
      unfold cleanV cleanB; rw [sweepN_take _ k hno]
    gi_wp2
    rw [Exit.noGoto_ret]
    have w0 : Boxed (W.putObj D (.deferred none)) w.heap.size 9 (.string ⟨#[]⟩) := y0.kept (grownBy_putObj' _ D _) (by simp; omega)
    have w1 : Boxed (W.putObj D (.deferred none)) (w.heap.size + 1) 30 (.int .i64 4) := y1.kept (grownBy_putObj' _ D _) (by simp; omega)
    have c5 := w0.cell
    have c6 := w1.cell
    refine ⟨by simp, .inl ⟨_, _, rfl, run_takeDeferred hK, ?_⟩⟩
    refine ⟨.tuple #[.string ⟨#[]⟩, .int .i64 4], by simp [results, Tryd.f31, go_sem, c5, c6], by rw [hno'], ?_⟩
    exact hB.trans (belowK_b (w := w) (Nat.le_refl _) _ D _ _ (by omega) hK rfl rfl)
end Go.Proofs.YtcnifjjdnomgpaaDoor
