/-
  The contracts of path.consistsOf, Right, Glob.
-/
import Derived.Test.YtedcaodbcognjaaDoorRight
namespace Go.Proofs.YtedcaodbcognjaaDoor
open Go Go.RowKit Go.Shelf Go.Proofs
attribute [local go_sem] Oper.semAt_some

theorem keepsB_b {K : Nat → Prop} {w : World} (hK : ∀ k, K k → k < w.heap.size) (W : World) (l : Nat) (o o' : Obj) (hl : w.heap.size ≤ l) (_ : W.heap[l]? = some o) (_ : o.isCells = false) (_ : o.isWalk = false) : KeepsB K W (W.putObj l o') :=
  .of_grownBy (grownBy_putObj' W l o') (fun r e hk => by cases e; have := hK _ hk; omega)
theorem piecesB_small (c : UInt8) (s x : ByteArray) (h : x ∈ piecesB c s) : x.size ≤ s.size := by
  unfold piecesB at h
  obtain ⟨l, hl, rfl⟩ := List.mem_map.1 h
  rw [mkB_size]
  have : ∀ (q : Bs) (l : Bs), l ∈ splitL c q → l.length ≤ q.length := by
    intro q
    induction q with
    | nil => intro l hl; simp [splitL] at hl; simp [hl]
    | cons b r ih =>
      intro l hl
      unfold splitL at hl
      split at hl
      · rcases List.mem_cons.1 hl with rfl | h
        · simp
        · have := ih l h; simp; omega
      · split at hl
        · rename_i e; exact absurd e (splitL_ne c r)
        · rename_i p ps e
          rcases List.mem_cons.1 hl with rfl | h
          · have := ih p (by rw [e]; simp); simp; omega
          · have := ih l (by rw [e]; simp [h]); simp; omega
  have h := this _ _ hl
  rw [Array.length_toList] at h; exact h

/-- What is asked of the function that is handed in. -/
def PartOk (g : Nat) (p : Bs → Bool) : Prop := ∀ (x : ByteArray) (w : World), x.size ≤ 100 → MaxOk w → Calls Tryd.prog g #[.string x] w fun e w' => e = .returned (.bool (p x.data.toList)) ∧ w' = w
theorem name_ok : PartOk 56 nameB := fun x w hx _ => name_any x w (by unfold maxLen; omega)
theorem pattern_ok : PartOk 80 patB := fun x w hx hm => pattern_any x w (by omega) hm

def allTo (p : Bs → Bool) (xs : List ByteArray) (k : Nat) : Bool := (xs.take k).all (fun x => p x.data.toList)

theorem allTo_snoc (p : Bs → Bool) (xs : List ByteArray) (k : Nat) (x : ByteArray) (hx : xs[k]? = some x) (h : allTo p xs k = true) : allTo p xs (k + 1) = p x.data.toList := by
  unfold allTo at h ⊢
  rw [List.take_add_one, hx, List.all_append, h]; simp
theorem allTo_all (p : Bs → Bool) (c : UInt8) (s : ByteArray) : allTo p (piecesB c s) (piecesB c s).length = (splitL c s.data.toList).all p := by
  unfold allTo piecesB
  rw [List.take_length, List.all_map]
  simp [Function.comp_def, mkB_data]
theorem allTo_false (p : Bs → Bool) (c : UInt8) (s : ByteArray) (k : Nat) (h : allTo p (piecesB c s) k = false) : (splitL c s.data.toList).all p = false := by
  rw [← allTo_all]
  unfold allTo at h ⊢
  rw [List.take_length]
  cases e : (piecesB c s).all fun x => p x.data.toList with
  | false => rfl
  | true =>
    have := List.all_eq_true.1 e
    rw [← h]
    symm
    exact List.all_eq_true.2 fun x hx => this x (List.mem_of_mem_take hx)

set_option maxRecDepth 100000 in
set_option maxHeartbeats 2000000 in
theorem consists_any (g : Nat) (p : Bs → Bool) (hg : PartOk g p) (s : ByteArray) (w : World) (hs : s.size ≤ 100) (hm : MaxOk w) (eg : ∀ args w, (callFunc g args).run Tryd.prog w = .ok (.enter g args) w) :
    Calls Tryd.prog 55 #[.string s, .func (.func g) #[] #[]] w fun e w' => e = .returned (.bool ((splitL 47 s.data.toList).all p)) ∧ Below w.heap.size w w' := by
  have hs1 : (s.size : Int) ≤ 100 := by omega
  refine (callsIn_wide (n := 3)).1 ?_
  generalize 3 = n
  refine callsIn_of_wp_marks Tryd.func55 rfl trivial ?_ rfl
  simp only [Tryd.ntmps55, List.size_toArray, List.length_cons, List.length_nil, Nat.reduceAdd, Nat.reduceSub, Array.replicate_succ, Array.replicate_zero, List.push_toArray, List.append_toArray, List.nil_append, List.cons_append]
  gi_wp2_with (refine wide_call (splitSeq_any s ⟨#[47]⟩ _) ?_; rintro e w' ⟨rfl, rfl⟩)
  obtain ⟨W0, hW0⟩ : ∃ W0, ((((w.alloc (.cells #[.func (.func g) #[] #[]] 58)).alloc (.cells #[.bool false] 4)).alloc (.cells #[.string s] 9)).alloc (.cells #[.string ⟨#[47]⟩] 9)).alloc (.cells #[.int .i64 0] 3) = W0 := ⟨_, rfl⟩
  have hs0 : W0.heap.size = w.heap.size + 5 := by rw [← hW0]; simp
  have x0 : Boxed W0 w.heap.size 58 (.func (.func g) #[] #[]) := by rw [← hW0]; exact ((((Boxed.new w _ _).alloc _).alloc _).alloc _).alloc _
  have x1 : Boxed W0 (w.heap.size + 1) 4 (.bool false) := by
    rw [← hW0]; have := Boxed.new (w.alloc (.cells #[.func (.func g) #[] #[]] 58)) 4 (.bool false); rw [World.size_alloc] at this; exact ((this.alloc _).alloc _).alloc _
  have x2 : Boxed W0 (w.heap.size + 2) 9 (.string s) := by
    rw [← hW0]; have := Boxed.new ((w.alloc (.cells #[.func (.func g) #[] #[]] 58)).alloc (.cells #[.bool false] 4)) 9 (.string s); simp only [World.size_alloc] at this; exact (this.alloc _).alloc _
  have x3 : Boxed W0 (w.heap.size + 3) 9 (.string ⟨#[47]⟩) := by
    rw [← hW0]; have := Boxed.new (((w.alloc (.cells #[.func (.func g) #[] #[]] 58)).alloc (.cells #[.bool false] 4)).alloc (.cells #[.string s] 9)) 9 (.string ⟨#[47]⟩); simp only [World.size_alloc] at this; exact this.alloc _
  have x4 : Boxed W0 (w.heap.size + 4) 3 (.int .i64 0) := by
    rw [← hW0]; have := Boxed.new ((((w.alloc (.cells #[.func (.func g) #[] #[]] 58)).alloc (.cells #[.bool false] 4)).alloc (.cells #[.string s] 9)).alloc (.cells #[.string ⟨#[47]⟩] 9)) 3 (.int .i64 0); simp only [World.size_alloc] at this; exact this
  have hB0 : Below w.heap.size w W0 := by
    rw [← hW0]; exact (((((Below.refl _ w).alloc (Nat.le_refl _) _).alloc (by simp) _).alloc (by simp; omega) _).alloc (by simp; omega) _).alloc (by simp; omega) _
  rw [hW0]
  clear hW0
  refine wpIn_rangeList rfl (fun h => absurd h (by decide)) (gf := 97) (lb := #[.pointer (some ⟨w.heap.size + 3, 0, none⟩), .pointer (some ⟨w.heap.size + 2, 0, none⟩), .pointer (some ⟨w.heap.size + 4, 0, none⟩)]) rfl trivial (enters_of Tryd.func97 (by kernel_rfl) rfl)
    (split_list _ (w.heap.size + 2) (w.heap.size + 3) (w.heap.size + 4) 47 s (by omega) W0 (by omega) (by omega) x2 x3 x4) KeepsB.trans (keepsB_b (by rintro k (rfl | rfl | rfl) <;> omega)) (by rintro r rfl; omega) (Below.refl _ _) (fun _ => rfl)
    (fun k W => Boxed W w.heap.size 58 (.func (.func g) #[] #[]) ∧ Boxed W (w.heap.size + 1) 4 (.bool false) ∧ Hid (allTo p (piecesB 47 s) k = true) ∧ Below w.heap.size w W)
    (fun c k W => Boxed W (w.heap.size + 1) 4 (.bool false) ∧ (c = .ret ∧ allTo p (piecesB 47 s) k = false) ∧ Below w.heap.size w W)
    (OwnTo.and (OwnTo.block (o := fun _ => .cells #[.func (.func g) #[] #[]] 58) (by omega) (by unfold OnlyS; omega)) (OwnTo.and (OwnTo.block (o := fun _ => .cells #[.bool false] 4) (by omega) (by unfold OnlyS; omega)) (OwnTo.and (OwnTo.pure _ _ _) (OwnTo.below (Nat.le_refl _) (by omega) (by rintro r rfl; omega)))))
    (fun c => OwnTo.and (OwnTo.block (o := fun _ => .cells #[.bool false] 4) (by omega) (by unfold OnlyS; omega)) (OwnTo.and (OwnTo.pure _ _ _) (OwnTo.below (Nat.le_refl _) (by omega) (by rintro r rfl; omega))))
    ⟨x0, x1, rfl, hB0⟩
    (fun x a' _ => a' = { tmps := #[.string s, .func (.func g) #[] #[], undef, .pointer (some ⟨w.heap.size, 0, none⟩), .pointer (some ⟨w.heap.size + 1, 0, none⟩), .string x, .string s, .int .i64 s.size, .bool (decide (100 < (s.size : Int))), .string s, .func (.func 97) #[] #[.pointer (some ⟨w.heap.size + 3, 0, none⟩), .pointer (some ⟨w.heap.size + 2, 0, none⟩), .pointer (some ⟨w.heap.size + 4, 0, none⟩)], .string x, undef, undef, undef, undef], defers := [] }) (fun _ _ _ _ _ _ hs _ _ => hs) ?assign ?body ?done ?stop
  case assign =>
    intro l k x W K hi hK
    gi_wp2
    exact hK _ _ (KeepsFrom.refl _ _) (KeepsB.refl _ _) hi rfl
  case body =>
    rintro l k x a' W hl _ ⟨y0, y1, hall, hB⟩ rfl hx
    have c0 := y0.cell
    have c1 := y1.cell
    have f1 := y1.frozen
    have hxs : x.size ≤ 100 := Nat.le_trans (piecesB_small 47 s x (List.mem_of_getElem? hx)) hs
    have hmW := hm.below hB
    have hst := allTo_snoc p _ k x hx hall.out
    have HST := Lib.hid hst; clear hst
    have HX := Lib.hid hx; clear hx
    cases hp : p x.data.toList with
    | false =>
      have HP := Lib.hid hp; clear hp
      gi_wp2_with (refine wide_call_in (hg x _ hxs hmW) ?_; rintro e w' ⟨rfl, rfl⟩; rw [HP.out])
      exact ⟨(KeepsOthers.setCell _ _ _).from _, y1.set _, ⟨rfl, HST.out.trans HP.out⟩, hB.setCell (p := ⟨w.heap.size + 1, 0, none⟩) (Nat.le_succ _) _⟩
    | true =>
      have HP := Lib.hid hp; clear hp
      gi_wp2_with (refine wide_call_in (hg x _ hxs hmW) ?_; rintro e w' ⟨rfl, rfl⟩; rw [HP.out])
      exact ⟨KeepsFrom.refl _ _, KeepsB.refl _ _, y0, y1, HST.out.trans HP.out, hB⟩
  case done =>
    rintro D W hD ⟨y0, y1, hall, hB⟩ hK
    have c1 := y1.cell
    have f1 := y1.frozen
    gi_wp2
    have hK' := (KeepsOthers.setCell W ⟨w.heap.size + 1, 0, none⟩ (.bool true)).same D _ hK rfl
    have y2 : Boxed ((W.setCell ⟨w.heap.size + 1, 0, none⟩ (.bool true)).putObj D (.deferred none)) (w.heap.size + 1) 4 (.bool true) := (y1.set _).kept (grownBy_putObj' _ D _) (by simp; omega)
    have c5 := y2.cell
    refine ⟨by simp, .inl ⟨_, _, rfl, run_takeDeferred hK', ?_⟩⟩
    refine ⟨.bool true, by simp [results, Tryd.f55, go_sem, c5], ret_bool ?_, ?_⟩
    · rw [← allTo_all p 47 s]; exact hall.out.symm
    · exact (hB.setCell (p := ⟨w.heap.size + 1, 0, none⟩) (Nat.le_succ _) _).trans (belowK_b (w := w) (Nat.le_refl _) _ D _ _ (by omega) hK' rfl rfl)
  case stop =>
    rintro D c k W hD hk ⟨y1, ⟨rfl, hall⟩, hB⟩ hK
    have c1 := y1.cell
    gi_wp2
    have y2 : Boxed (W.putObj D (.deferred none)) (w.heap.size + 1) 4 (.bool false) := y1.kept (grownBy_putObj' _ D _) (by simp; omega)
    have c5 := y2.cell
    refine ⟨by simp, .inl ⟨_, _, rfl, run_takeDeferred hK, ?_⟩⟩
    refine ⟨.bool false, by simp [results, Tryd.f55, go_sem, c5], ret_bool ?_, ?_⟩
    · exact (allTo_false p 47 s k hall).symm
    · exact hB.trans (belowK_b (w := w) (Nat.le_refl _) _ D _ _ (by omega) hK rfl rfl)

set_option maxHeartbeats 1000000 in
theorem consists_long (g : Nat) (s : ByteArray) (w : World) (hs : s.size ≤ maxLen) (hl : 100 < s.size) :
    Calls Tryd.prog 55 #[.string s, .func (.func g) #[] #[]] w fun e w' => e = .returned (.bool false) ∧ Below w.heap.size w w' := by
  unfold maxLen at hs
  have hs1 : 100 < (s.size : Int) := by omega
  go_enter Tryd.func55, Tryd.ntmps55
  go_wp2
  exact bodyPost_ret (v := .bool false) (by simp [results, Tryd.f55, go_sem]) rfl ⟨rfl, ((Below.refl _ w).alloc (Nat.le_refl _) _).alloc (by simp) _⟩

theorem consists_all (g : Nat) (p : Bs → Bool) (hg : PartOk g p) (s : ByteArray) (w : World) (hs : s.size ≤ maxLen) (hm : MaxOk w) (eg : ∀ args w, (callFunc g args).run Tryd.prog w = .ok (.enter g args) w) :
    Calls Tryd.prog 55 #[.string s, .func (.func g) #[] #[]] w fun e w' => e = .returned (.bool (partsB p s.data.toList)) ∧ Below w.heap.size w w' := by
  have hl : s.data.toList.length = s.size := by rw [Array.length_toList]; rfl
  by_cases h : s.size ≤ 100
  · refine (consists_any g p hg s w h hm eg).mono fun e w' ⟨he, hw⟩ => ⟨?_, hw⟩
    rw [he]; unfold partsB; rw [decide_eq_true (by omega)]; rfl
  · refine (consists_long g s w hs (by omega)).mono fun e w' ⟨he, hw⟩ => ⟨?_, hw⟩
    rw [he]; unfold partsB; rw [decide_eq_false (by omega)]; rfl

theorem right_any (s : ByteArray) (w : World) (hs : s.size ≤ maxLen) (hm : MaxOk w) :
    Calls Tryd.prog 40 #[.string s] w fun e w' => e = .returned (.bool (rightB s.data.toList)) ∧ Below w.heap.size w w' := by
  have H := Lib.hid (enters_of (P := Tryd.prog) Tryd.func56 (by kernel_rfl) rfl)
  go_enter Tryd.func40, Tryd.ntmps40
  go_wp2_with (go_at_call 55; refine (consists_all _ nameB name_ok s _ hs hm H.out).mono ?_; rintro e w' ⟨rfl, hb⟩)
  go_ret
  exact ⟨rfl, hb⟩

theorem glob_any (s : ByteArray) (w : World) (hs : s.size ≤ maxLen) (hm : MaxOk w) :
    Calls Tryd.prog 67 #[.string s] w fun e w' => e = .returned (.bool (globB s.data.toList)) ∧ Below w.heap.size w w' := by
  have H := Lib.hid (enters_of (P := Tryd.prog) Tryd.func80 (by kernel_rfl) rfl)
  go_enter Tryd.func67, Tryd.ntmps67
  go_wp2_with (go_at_call 55; refine (consists_all _ patB pattern_ok s _ hs hm H.out).mono ?_; rintro e w' ⟨rfl, hb⟩)
  go_ret
  exact ⟨rfl, hb⟩
end Go.Proofs.YtedcaodbcognjaaDoor
