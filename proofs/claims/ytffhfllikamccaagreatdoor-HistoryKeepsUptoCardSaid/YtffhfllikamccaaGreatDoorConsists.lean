/-
  The contracts of path.plain, spelt, name, pattern, consistsOf, Right, Glob. · The contracts of path.name, pattern, consistsOf, Right, Glob. · The contracts of path.consistsOf, Right, Glob.
-/
import Derived.Test.YtffhfllikamccaaGreatDoorSplit
import Derived.BigQuiet
import Derived.Deep.QuietTactic
namespace Go.Proofs.YtffhfllikamccaaGreatDoor
open Go Go.RowKit Go.Shelf Go.Proofs
attribute [local go_sem] Oper.semAt_some

def plainI (c : Int) : Bool := (decide (97 ≤ c) && decide (c ≤ 122)) || (decide (65 ≤ c) && decide (c ≤ 90)) || (decide (48 ≤ c) && decide (c ≤ 57)) || c == 46 || c == 95 || c == 45
theorem plainI_eq (b : UInt8) : plainI b.toNat = plainB b := by
  have hb : ∀ k : Nat, k < 256 → ((b == UInt8.ofNat k) = ((b.toNat : Int) == (k : Int))) := fun k hk => by
    rw [Bool.eq_iff_iff, beq_iff_eq, beq_iff_eq, ← UInt8.toNat_inj, UInt8.toNat_ofNat']
    omega
  unfold plainI plainB
  simp only [UInt8.le_iff_toNat_le]
  have h1 := hb 46 (by omega); have h2 := hb 95 (by omega); have h3 := hb 45 (by omega)
  simp only [show UInt8.ofNat 46 = 46 from rfl, show UInt8.ofNat 95 = 95 from rfl, show UInt8.ofNat 45 = 45 from rfl] at h1 h2 h3
  rw [h1, h2, h3]
  simp only [show (97 : UInt8).toNat = 97 from rfl, show (122 : UInt8).toNat = 122 from rfl, show (65 : UInt8).toNat = 65 from rfl, show (90 : UInt8).toNat = 90 from rfl, show (48 : UInt8).toNat = 48 from rfl, show (57 : UInt8).toNat = 57 from rfl]
  have e : ∀ a b : Nat, decide ((a : Int) ≤ (b : Int)) = decide (a ≤ b) := fun a b => by rw [Bool.eq_iff_iff]; simp
  rw [← e, ← e, ← e, ← e, ← e, ← e]
  rfl

theorem ret_bool {a b : Bool} (h : a = b) : Ending.returned (.bool a) = .returned (.bool b) := by rw [h]

set_option maxHeartbeats 1000000 in
theorem plain_any (c : Int) (w : World) (h0 : 0 ≤ c) (h1 : c ≤ 255) :
    Calls Tryz.prog 102 #[.int .u8 c] w fun e w' => e = .returned (.bool (plainI c)) ∧ w' = w := by
  go_enter Tryz.func102, Tryz.ntmps102
  go_wp2
  all_goals (go_ret; exact ⟨ret_bool (by unfold plainI; first | decide | (rw [Bool.eq_iff_iff]; simp <;> omega)), rfl⟩)

theorem plain_byte (b : UInt8) (w : World) : Calls Tryz.prog 102 #[.int .u8 ↑b.toNat] w fun e w' => e = .returned (.bool (plainB b)) ∧ w' = w := by
  have := b.toNat_lt
  have h := plain_any b.toNat w (by omega) (by omega)
  rwa [plainI_eq] at h

theorem index_byte (s : ByteArray) (b : UInt8) (w : World) : Calls Tryz.prog 103 #[.string s, .int .u8 ↑b.toNat] w fun e w' => e = .returned (.int .i64 (Lib.indexByte s.data.toList b)) ∧ w' = w := by
  have h := Tryz.strings_IndexByte s (b.toNat : Int) w
  have e : ((b.toNat : Int).toNat.toUInt8) = b := by simp
  rwa [e] at h

theorem indexByte_neg (c : UInt8) : ∀ l : Bs, Lib.indexByte l c < 0 ↔ l.contains c = false
  | [] => by simp [Lib.indexByte]
  | b :: r => by
    have hge := Lib.indexByte_ge r c
    have ih := indexByte_neg c r
    unfold Lib.indexByte
    by_cases hb : (b == c) = true
    · simp only [hb, if_true, List.contains_cons]
      have : (c == b) = true := by rw [beq_iff_eq] at hb ⊢; exact hb.symm
      simp [this]
    · have hb' : (b == c) = false := by simpa using hb
      have hc : (c == b) = false := by rw [beq_eq_false_iff_ne] at hb' ⊢; exact fun e => hb' e.symm
      simp only [hb', Bool.false_eq_true, if_false, List.contains_cons, hc, Bool.false_or]
      by_cases e : Lib.indexByte r c = -1
      · rw [if_pos (by simpa using e), ← ih]; omega
      · rw [if_neg (by simpa using e), ← ih]; omega

theorem take_snoc (s : ByteArray) (k : Nat) (h : k < s.size) : s.data.toList.take (k + 1) = s.data.toList.take k ++ [s[k]] := by
  rw [List.take_succ_eq_append_getElem (by simpa using h)]; rfl
theorem all_snoc (p : UInt8 → Bool) (s : ByteArray) (k : Nat) (h : k < s.size) (ha : (s.data.toList.take k).all p = true) : (s.data.toList.take (k + 1)).all p = p s[k] := by
  rw [take_snoc s k h, List.all_append, ha]; simp
theorem all_take_false (p : UInt8 → Bool) (s : ByteArray) (k : Nat) (h : (s.data.toList.take k).all p = false) : s.data.toList.all p = false := by
  cases e : s.data.toList.all p with
  | false => rfl
  | true =>
    have := List.all_eq_true.1 e
    rw [← h]
    symm
    exact List.all_eq_true.2 fun x hx => this x (List.mem_of_mem_take hx)

def allOk (wild : Bs) (s : ByteArray) : Bool := s.data.toList.all (okB wild)
set_option maxHeartbeats 1000000 in
theorem spelt_bad (s wild : ByteArray) (w : World) (hs : s.size ≤ maxLen) (h : s.toList = [] ∨ s.toList = [46] ∨ s.toList = [46, 46] ∨ 30 < s.size) :
    Calls Tryz.prog 89 #[.string s, .string wild] w fun e w' => e = .returned (.bool false) ∧ w' = w := by
  unfold maxLen at hs
  by_cases h1 : s.toList = []
  · have g1 : s.toList.isEmpty = true := by simp [h1]
    clear h h1
    go_enter Tryz.func89, Tryz.ntmps89
    go_wp2_with fail
    go_ret
    exact ⟨rfl, rfl⟩
  · have g1 : s.toList.isEmpty = false := by simpa using h1
    by_cases h2 : s.toList = [46]
    · have g2 : (s.toList == [46]) = true := by simp [h2]
      clear h h1 h2
      go_enter Tryz.func89, Tryz.ntmps89
      go_wp2_with fail
      go_ret
      exact ⟨rfl, rfl⟩
    · have g2 : (s.toList == [46]) = false := by simpa using h2
      by_cases h3 : s.toList = [46, 46]
      · have g3 : (s.toList == [46, 46]) = true := by simp [h3]
        clear h h1 h2 h3
        go_enter Tryz.func89, Tryz.ntmps89
        go_wp2_with fail
        go_ret
        exact ⟨rfl, rfl⟩
      · have g3 : (s.toList == [46, 46]) = false := by simpa using h3
        have h4 : 30 < (s.size : Int) := by
          rcases h with h | h | h | h
          · exact absurd h h1
          · exact absurd h h2
          · exact absurd h h3
          · omega
        clear h h1 h2 h3
        go_enter Tryz.func89, Tryz.ntmps89
        go_wp2_with fail
        go_ret
        exact ⟨rfl, rfl⟩

set_option maxHeartbeats 1000000 in
theorem spelt_good (s wild : ByteArray) (w : World) (h1 : ¬ s.toList = []) (h2 : ¬ s.toList = [46]) (h3 : ¬ s.toList = [46, 46]) (h4 : s.size ≤ 30) :
    Calls Tryz.prog 89 #[.string s, .string wild] w fun e w' => e = .returned (.bool (allOk wild.data.toList s)) ∧ w' = w := by
  have g1 : s.toList.isEmpty = false := by simpa using h1
  have g2 : (s.toList == [46]) = false := by simpa using h2
  have g3 : (s.toList == [46, 46]) = false := by simpa using h3
  have g4 : (s.size : Int) ≤ 30 := by omega
  clear h1 h2 h3
  go_enter Tryz.func89, Tryz.ntmps89
  go_wp2_with fail
  clear g1 g2 g3
  go_loop [23] (fun i => ∃ k : Nat, k ≤ s.size ∧ i = .int .i64 k ∧ Hid ((s.data.toList.take k).all (okB wild.data.toList) = true)) (fun i => s.size - (intOf i).toNat)
  case atStart => exact ⟨0, Nat.zero_le _, rfl, rfl⟩
  case round =>
    obtain ⟨k, hk, rfl, hall⟩ := hrel
    by_cases hlt : k < s.size
    · have hsn := all_snoc (okB wild.data.toList) s k hlt hall.out
      obtain ⟨b, hb⟩ : ∃ b, s[k] = b := ⟨_, rfl⟩
      have HS := Lib.hid hsn; clear hsn
      by_cases hp : plainB b = true
      · have HP := Lib.hid hp; clear hp
        have HB := Lib.hid hb; clear hb
        go_wp2_with (go_at_call 102; refine (plain_byte _ _).mono ?_; rintro e w' ⟨rfl, rfl⟩; rw [HB.out, HP.out])
        go_round
        case rel => exact ⟨k + 1, by omega, by go_num, by unfold Hid; rw [HS.out, HB.out]; simp [okB, HP.out]⟩
        case measure => simp [intOf]; omega
      · have hp' : plainB b = false := by simpa using hp
        have hn := indexByte_neg b wild.data.toList
        by_cases hi : Lib.indexByte wild.data.toList b < 0
        · have hc := hn.1 hi
          have HP := Lib.hid hp'; clear hp' hp
          have HB := Lib.hid hb; clear hb
          have HC := Lib.hid hc; clear hc hn
          go_wp2_with (first | (go_at_call 102; refine (plain_byte _ _).mono ?_; rintro e w' ⟨rfl, rfl⟩; rw [HB.out, HP.out]) | (go_at_call 103; refine (index_byte _ _ _).mono ?_; rintro e w' ⟨rfl, rfl⟩; rw [HB.out]))
          go_ret
          exact ⟨ret_bool (by unfold allOk; rw [all_take_false _ s (k + 1)]; rw [HS.out, HB.out]; unfold okB; rw [HP.out, HC.out]; rfl), rfl⟩
        · have hc : wild.data.toList.contains b = true := by
            cases e : wild.data.toList.contains b with
            | true => rfl
            | false => exact absurd (hn.2 e) hi
          have hi2 : 0 ≤ Lib.indexByte wild.data.toList b := by omega
          have HP := Lib.hid hp'; clear hp' hp
          have HB := Lib.hid hb; clear hb
          have HC := Lib.hid hc; clear hc hn hi
          go_wp2_with (first | (go_at_call 102; refine (plain_byte _ _).mono ?_; rintro e w' ⟨rfl, rfl⟩; rw [HB.out, HP.out]) | (go_at_call 103; refine (index_byte _ _ _).mono ?_; rintro e w' ⟨rfl, rfl⟩; rw [HB.out]))
          go_round
          case rel => exact ⟨k + 1, by omega, by go_num, by unfold Hid; rw [HS.out, HB.out]; unfold okB; rw [HC.out]; simp⟩
          case measure => simp [intOf]; omega
    · go_wp2
      go_ret
      exact ⟨ret_bool (by unfold allOk; have h := hall.out; rw [List.take_of_length_le (by rw [Array.length_toList]; show s.size ≤ k; omega)] at h; exact h.symm), rfl⟩

theorem spelt_any (s wild : ByteArray) (w : World) (hs : s.size ≤ maxLen) :
    Calls Tryz.prog 89 #[.string s, .string wild] w fun e w' => e = .returned (.bool (speltB wild.data.toList s.data.toList)) ∧ w' = w := by
  have hl : s.data.toList.length = s.size := by rw [Array.length_toList]; rfl
  by_cases h : s.toList = [] ∨ s.toList = [46] ∨ s.toList = [46, 46] ∨ 30 < s.size
  · refine (spelt_bad s wild w hs h).mono fun e w' ⟨he, hw⟩ => ⟨?_, hw⟩
    rw [he]
    refine ret_bool ?_
    rw [ByteArray.toList_eq] at h
    unfold speltB
    rcases h with h | h | h | h
    · simp [h]
    · simp [h]
    · simp [h]
    · simp [hl]; intros; omega
  · simp only [not_or] at h
    refine (spelt_good s wild w h.1 h.2.1 h.2.2.1 (by omega)).mono fun e w' ⟨he, hw⟩ => ⟨?_, hw⟩
    rw [he]
    refine ret_bool ?_
    rw [ByteArray.toList_eq] at h
    unfold speltB
    have h1 : s.data.toList.isEmpty = false := by simpa using h.1
    have h2 : (s.data.toList == [46]) = false := by simpa using h.2.1
    have h3 : (s.data.toList == [46, 46]) = false := by simpa using h.2.2.1
    rw [h1, h2, h3, decide_eq_true (by omega)]; rfl
end Go.Proofs.YtffhfllikamccaaGreatDoor
namespace Go.Proofs.YtffhfllikamccaaGreatDoor
open Go Go.RowKit Go.Shelf Go.Proofs
attribute [local go_sem] Oper.semAt_some

/-- The library's variable internal/bytealg.MaxLen holds some number. -/
def MaxOk (w : World) : Prop := 0 < w.heap.size ∧ 0 < w.heap.size ∧ ∃ m, w.cell? ⟨0, 0, none⟩ = some (.int .i64 m)
theorem MaxOk.below {w w' : World} (h : MaxOk w) (hb : Below w.heap.size w w') : MaxOk w' := by
  obtain ⟨h0, h1, m, hm⟩ := h
  exact ⟨Nat.lt_of_lt_of_le h0 hb.size, Nat.lt_of_lt_of_le h1 hb.size, m, (hb.cell (p := ⟨0, 0, none⟩) h1).trans hm⟩
theorem MaxOk.belowN {n : Nat} {w w' : World} (h : MaxOk w) (hb : Below n w w') (hn : w.heap.size ≤ n) : MaxOk w' := h.below (hb.mono hn)

theorem name_any (s : ByteArray) (w : World) (hs : s.size ≤ maxLen) :
    Calls Tryz.prog 66 #[.string s] w fun e w' => e = .returned (.bool (nameB s.data.toList)) ∧ w' = w := by
  go_enter Tryz.func66, Tryz.ntmps66
  go_wp2_with (go_at_call 89; refine (spelt_any _ _ _ hs).mono ?_; rintro e w' ⟨rfl, rfl⟩)
  go_ret
  exact ⟨rfl, rfl⟩

end Go.Proofs.YtffhfllikamccaaGreatDoor
namespace Go.Proofs.YtffhfllikamccaaGreatDoor
open Go Go.RowKit Go.Shelf Go.Proofs
attribute [local go_sem] Oper.semAt_some

theorem keepsB_b {K : Nat → Prop} {w : World} (hK : ∀ k, K k → k < w.heap.size) (W : World) (l : Nat) (o o' : Obj) (hl : w.heap.size ≤ l) (_ : W.heap[l]? = some o) (_ : o.isCells = false) (_ : o.isWalk = false) : KeepsB K W (W.putObj l o') :=
  .of_grownBy (grownBy_putObj' W l o') (fun r e hk => by cases e; have := hK _ hk; omega)
theorem piecesB_small (c : UInt8) (s x : ByteArray) (h : x ∈ piecesB c s) : x.size ≤ s.size := by
  unfold piecesB at h
  obtain ⟨l, hl, rfl⟩ := List.mem_map.1 h
  rw [mkB_size]
  have : ∀ (q : Bs) (l : Bs), l ∈ splitL c q → l.length ≤ q.length := by
    intro q
    induction q with
    | nil => intro l hl; simp [splitL] at hl; simp [hl]
    | cons b r ih =>
      intro l hl
      unfold splitL at hl
      split at hl
      · rcases List.mem_cons.1 hl with rfl | h
        · simp
        · have := ih l h; simp; omega
      · split at hl
        · rename_i e; exact absurd e (splitL_ne c r)
        · rename_i p ps e
          rcases List.mem_cons.1 hl with rfl | h
          · have := ih p (by rw [e]; simp); simp; omega
          · have := ih l (by rw [e]; simp [h]); simp; omega
  have h := this _ _ hl
  rw [Array.length_toList] at h; exact h

/-- What is asked of the function that is handed in. -/
def PartOk (g : Nat) (p : Bs → Bool) : Prop := ∀ (x : ByteArray) (w : World), x.size ≤ 100 → MaxOk w → Calls Tryz.prog g #[.string x] w fun e w' => e = .returned (.bool (p x.data.toList)) ∧ w' = w
theorem name_ok : PartOk 66 nameB := fun x w hx _ => name_any x w (by unfold maxLen; omega)
def allTo (p : Bs → Bool) (xs : List ByteArray) (k : Nat) : Bool := (xs.take k).all (fun x => p x.data.toList)

theorem allTo_snoc (p : Bs → Bool) (xs : List ByteArray) (k : Nat) (x : ByteArray) (hx : xs[k]? = some x) (h : allTo p xs k = true) : allTo p xs (k + 1) = p x.data.toList := by
  unfold allTo at h ⊢
  rw [List.take_add_one, hx, List.all_append, h]; simp
theorem allTo_all (p : Bs → Bool) (c : UInt8) (s : ByteArray) : allTo p (piecesB c s) (piecesB c s).length = (splitL c s.data.toList).all p := by
  unfold allTo piecesB
  rw [List.take_length, List.all_map]
  simp [Function.comp_def, mkB_data]
theorem allTo_false (p : Bs → Bool) (c : UInt8) (s : ByteArray) (k : Nat) (h : allTo p (piecesB c s) k = false) : (splitL c s.data.toList).all p = false := by
  rw [← allTo_all]
  unfold allTo at h ⊢
  rw [List.take_length]
  cases e : (piecesB c s).all fun x => p x.data.toList with
  | false => rfl
  | true =>
    have := List.all_eq_true.1 e
    rw [← h]
    symm
    exact List.all_eq_true.2 fun x hx => this x (List.mem_of_mem_take hx)

set_option maxRecDepth 100000 in
set_option maxHeartbeats 2000000 in
theorem consists_any (g : Nat) (p : Bs → Bool) (hg : PartOk g p) (s : ByteArray) (w : World) (hs : s.size ≤ 100) (hm : MaxOk w) (eg : ∀ args w, (callFunc g args).run Tryz.prog w = .ok (.enter g args) w) :
    Calls Tryz.prog 65 #[.string s, .func (.func g) #[] #[]] w fun e w' => e = .returned (.bool ((splitL 47 s.data.toList).all p)) ∧ Below w.heap.size w w' := by
  have hs1 : (s.size : Int) ≤ 100 := by omega
  refine (callsIn_wide (n := 3)).1 ?_
  generalize 3 = n
  refine callsIn_of_wp_marks Tryz.func65 rfl trivial ?_ rfl
  simp only [Tryz.ntmps65, List.size_toArray, List.length_cons, List.length_nil, Nat.reduceAdd, Nat.reduceSub, Array.replicate_succ, Array.replicate_zero, List.push_toArray, List.append_toArray, List.nil_append, List.cons_append]
  gi_wp2_with (refine wide_call (splitSeq_any s ⟨#[47]⟩ _) ?_; rintro e w' ⟨rfl, rfl⟩)
  obtain ⟨W0, hW0⟩ : ∃ W0, ((((w.alloc (.cells #[.func (.func g) #[] #[]] 81)).alloc (.cells #[.bool false] 4)).alloc (.cells #[.string s] 9)).alloc (.cells #[.string ⟨#[47]⟩] 9)).alloc (.cells #[.int .i64 0] 3) = W0 := ⟨_, rfl⟩
  have hs0 : W0.heap.size = w.heap.size + 5 := by rw [← hW0]; simp
  have x0 : Boxed W0 w.heap.size 81 (.func (.func g) #[] #[]) := by rw [← hW0]; exact ((((Boxed.new w _ _).alloc _).alloc _).alloc _).alloc _
  have x1 : Boxed W0 (w.heap.size + 1) 4 (.bool false) := by
    rw [← hW0]; have := Boxed.new (w.alloc (.cells #[.func (.func g) #[] #[]] 81)) 4 (.bool false); rw [World.size_alloc] at this; exact ((this.alloc _).alloc _).alloc _
  have x2 : Boxed W0 (w.heap.size + 2) 9 (.string s) := by
    rw [← hW0]; have := Boxed.new ((w.alloc (.cells #[.func (.func g) #[] #[]] 81)).alloc (.cells #[.bool false] 4)) 9 (.string s); simp only [World.size_alloc] at this; exact (this.alloc _).alloc _
  have x3 : Boxed W0 (w.heap.size + 3) 9 (.string ⟨#[47]⟩) := by
    rw [← hW0]; have := Boxed.new (((w.alloc (.cells #[.func (.func g) #[] #[]] 81)).alloc (.cells #[.bool false] 4)).alloc (.cells #[.string s] 9)) 9 (.string ⟨#[47]⟩); simp only [World.size_alloc] at this; exact this.alloc _
  have x4 : Boxed W0 (w.heap.size + 4) 3 (.int .i64 0) := by
    rw [← hW0]; have := Boxed.new ((((w.alloc (.cells #[.func (.func g) #[] #[]] 81)).alloc (.cells #[.bool false] 4)).alloc (.cells #[.string s] 9)).alloc (.cells #[.string ⟨#[47]⟩] 9)) 3 (.int .i64 0); simp only [World.size_alloc] at this; exact this
  have hB0 : Below w.heap.size w W0 := by
    rw [← hW0]; exact (((((Below.refl _ w).alloc (Nat.le_refl _) _).alloc (by simp) _).alloc (by simp; omega) _).alloc (by simp; omega) _).alloc (by simp; omega) _
  rw [hW0]
  clear hW0
  refine wpIn_rangeList rfl (fun h => absurd h (by decide)) (gf := 108) (lb := #[.pointer (some ⟨w.heap.size + 3, 0, none⟩), .pointer (some ⟨w.heap.size + 2, 0, none⟩), .pointer (some ⟨w.heap.size + 4, 0, none⟩)]) rfl trivial (enters_of Tryz.func108 (by kernel_rfl) rfl)
    (split_list _ (w.heap.size + 2) (w.heap.size + 3) (w.heap.size + 4) 47 s (by omega) W0 (by omega) (by omega) x2 x3 x4) KeepsB.trans (keepsB_b (by rintro k (rfl | rfl | rfl) <;> omega)) (by rintro r rfl; omega) (Below.refl _ _) (fun _ => rfl)
    (fun k W => Boxed W w.heap.size 81 (.func (.func g) #[] #[]) ∧ Boxed W (w.heap.size + 1) 4 (.bool false) ∧ Hid (allTo p (piecesB 47 s) k = true) ∧ Below w.heap.size w W)
    (fun c k W => Boxed W (w.heap.size + 1) 4 (.bool false) ∧ (c = .ret ∧ allTo p (piecesB 47 s) k = false) ∧ Below w.heap.size w W)
    (OwnTo.and (OwnTo.block (o := fun _ => .cells #[.func (.func g) #[] #[]] 81) (by omega) (by unfold OnlyS; omega)) (OwnTo.and (OwnTo.block (o := fun _ => .cells #[.bool false] 4) (by omega) (by unfold OnlyS; omega)) (OwnTo.and (OwnTo.pure _ _ _) (OwnTo.below (Nat.le_refl _) (by omega) (by rintro r rfl; omega)))))
    (fun c => OwnTo.and (OwnTo.block (o := fun _ => .cells #[.bool false] 4) (by omega) (by unfold OnlyS; omega)) (OwnTo.and (OwnTo.pure _ _ _) (OwnTo.below (Nat.le_refl _) (by omega) (by rintro r rfl; omega))))
    ⟨x0, x1, rfl, hB0⟩
    (fun x a' _ => a' = { tmps := #[.string s, .func (.func g) #[] #[], undef, .pointer (some ⟨w.heap.size, 0, none⟩), .pointer (some ⟨w.heap.size + 1, 0, none⟩), .string x, .string s, .int .i64 s.size, .bool (decide (100 < (s.size : Int))), .string s, .func (.func 108) #[] #[.pointer (some ⟨w.heap.size + 3, 0, none⟩), .pointer (some ⟨w.heap.size + 2, 0, none⟩), .pointer (some ⟨w.heap.size + 4, 0, none⟩)], .string x, undef, undef, undef, undef], defers := [] }) (fun _ _ _ _ _ _ hs _ _ => hs) ?assign ?body ?done ?stop
  case assign =>
    intro l k x W K hi hK
    gi_wp2
    exact hK _ _ (KeepsFrom.refl _ _) (KeepsB.refl _ _) hi rfl
  case body =>
    rintro l k x a' W hl _ ⟨y0, y1, hall, hB⟩ rfl hx
    have c0 := y0.cell
    have c1 := y1.cell
    have f1 := y1.frozen
    have hxs : x.size ≤ 100 := Nat.le_trans (piecesB_small 47 s x (List.mem_of_getElem? hx)) hs
    have hmW := hm.below hB
    have hst := allTo_snoc p _ k x hx hall.out
    have HST := Lib.hid hst; clear hst
    have HX := Lib.hid hx; clear hx
    cases hp : p x.data.toList with
    | false =>
      have HP := Lib.hid hp; clear hp
      gi_wp2_with (refine wide_call_in (hg x _ hxs hmW) ?_; rintro e w' ⟨rfl, rfl⟩; rw [HP.out])
      exact ⟨(KeepsOthers.setCell _ _ _).from _, y1.set _, ⟨rfl, HST.out.trans HP.out⟩, hB.setCell (p := ⟨w.heap.size + 1, 0, none⟩) (Nat.le_succ _) _⟩
    | true =>
      have HP := Lib.hid hp; clear hp
      gi_wp2_with (refine wide_call_in (hg x _ hxs hmW) ?_; rintro e w' ⟨rfl, rfl⟩; rw [HP.out])
      exact ⟨KeepsFrom.refl _ _, KeepsB.refl _ _, y0, y1, HST.out.trans HP.out, hB⟩
  case done =>
    rintro D W hD ⟨y0, y1, hall, hB⟩ hK
    have c1 := y1.cell
    have f1 := y1.frozen
    gi_wp2
    have hK' := (KeepsOthers.setCell W ⟨w.heap.size + 1, 0, none⟩ (.bool true)).same D _ hK rfl
    have y2 : Boxed ((W.setCell ⟨w.heap.size + 1, 0, none⟩ (.bool true)).putObj D (.deferred none)) (w.heap.size + 1) 4 (.bool true) := (y1.set _).kept (grownBy_putObj' _ D _) (by simp; omega)
    have c5 := y2.cell
    refine ⟨by simp, .inl ⟨_, _, rfl, run_takeDeferred hK', ?_⟩⟩
    refine ⟨.bool true, by simp [results, Tryz.f65, go_sem, c5], ret_bool ?_, ?_⟩
    · rw [← allTo_all p 47 s]; exact hall.out.symm
    · exact (hB.setCell (p := ⟨w.heap.size + 1, 0, none⟩) (Nat.le_succ _) _).trans (belowK_b (w := w) (Nat.le_refl _) _ D _ _ (by omega) hK' rfl rfl)
  case stop =>
    rintro D c k W hD hk ⟨y1, ⟨rfl, hall⟩, hB⟩ hK
    have c1 := y1.cell
    gi_wp2
    have y2 : Boxed (W.putObj D (.deferred none)) (w.heap.size + 1) 4 (.bool false) := y1.kept (grownBy_putObj' _ D _) (by simp; omega)
    have c5 := y2.cell
    refine ⟨by simp, .inl ⟨_, _, rfl, run_takeDeferred hK, ?_⟩⟩
    refine ⟨.bool false, by simp [results, Tryz.f65, go_sem, c5], ret_bool ?_, ?_⟩
    · exact (allTo_false p 47 s k hall).symm
    · exact hB.trans (belowK_b (w := w) (Nat.le_refl _) _ D _ _ (by omega) hK rfl rfl)

set_option maxHeartbeats 1000000 in
theorem consists_long (g : Nat) (s : ByteArray) (w : World) (hs : s.size ≤ maxLen) (hl : 100 < s.size) :
    Calls Tryz.prog 65 #[.string s, .func (.func g) #[] #[]] w fun e w' => e = .returned (.bool false) ∧ Below w.heap.size w w' := by
  unfold maxLen at hs
  have hs1 : 100 < (s.size : Int) := by omega
  go_enter Tryz.func65, Tryz.ntmps65
  go_wp2
  exact bodyPost_ret (v := .bool false) (by simp [results, Tryz.f65, go_sem]) rfl ⟨rfl, ((Below.refl _ w).alloc (Nat.le_refl _) _).alloc (by simp) _⟩

theorem consists_all (g : Nat) (p : Bs → Bool) (hg : PartOk g p) (s : ByteArray) (w : World) (hs : s.size ≤ maxLen) (hm : MaxOk w) (eg : ∀ args w, (callFunc g args).run Tryz.prog w = .ok (.enter g args) w) :
    Calls Tryz.prog 65 #[.string s, .func (.func g) #[] #[]] w fun e w' => e = .returned (.bool (partsB p s.data.toList)) ∧ Below w.heap.size w w' := by
  have hl : s.data.toList.length = s.size := by rw [Array.length_toList]; rfl
  by_cases h : s.size ≤ 100
  · refine (consists_any g p hg s w h hm eg).mono fun e w' ⟨he, hw⟩ => ⟨?_, hw⟩
    rw [he]; unfold partsB; rw [decide_eq_true (by omega)]; rfl
  · refine (consists_long g s w hs (by omega)).mono fun e w' ⟨he, hw⟩ => ⟨?_, hw⟩
    rw [he]; unfold partsB; rw [decide_eq_false (by omega)]; rfl

theorem right_any (s : ByteArray) (w : World) (hs : s.size ≤ maxLen) (hm : MaxOk w) :
    Calls Tryz.prog 48 #[.string s] w fun e w' => e = .returned (.bool (rightB s.data.toList)) ∧ Below w.heap.size w w' := by
  have H := Lib.hid (enters_of (P := Tryz.prog) Tryz.func66 (by kernel_rfl) rfl)
  go_enter Tryz.func48, Tryz.ntmps48
  go_wp2_with (go_at_call 65; refine (consists_all _ nameB name_ok s _ hs hm H.out).mono ?_; rintro e w' ⟨rfl, hb⟩)
  go_ret
  exact ⟨rfl, hb⟩

end Go.Proofs.YtffhfllikamccaaGreatDoor
