/-
  The contract of path.Match.
-/
import Derived.Test.YtkihgbggndikpaaGreatDoorFits
import Derived.Test.YtkihgbggndikpaaGreatDoorPartedTS
namespace Go.Proofs.YtkihgbggndikpaaGreatDoor
open Go Go.RowKit Go.Shelf Go.Proofs

theorem splitK_eq (c : UInt8) : ∀ (n : Nat) (s : Bs), s.length ≤ n → Lib.splitK [c] 0 (Lib.count s [c]) s = splitL c s ∧ Lib.count s [c] + 1 = (splitL c s).length := by
  intro n
  induction n with
  | zero =>
    intro s hs
    obtain rfl : s = [] := List.eq_nil_of_length_eq_zero (by omega)
    exact ⟨rfl, rfl⟩
  | succ n ih =>
    intro s hs
    have hge := Lib.indexByte_ge s c
    by_cases h : Lib.indexByte s c = -1
    · have h1 : Lib.index s [c] = -1 := by rw [Lib.index_one]; exact h
      rw [Lib.count_miss h1, splitL_miss c s h]
      exact ⟨rfl, rfl⟩
    · obtain ⟨i, hi⟩ : ∃ i : Nat, Lib.indexByte s c = i := ⟨(Lib.indexByte s c).toNat, by omega⟩
      have h1 : Lib.index s [c] = i := by rw [Lib.index_one]; exact hi
      obtain ⟨hl, hsp⟩ := splitL_hit c s i hi
      have h2 := ih (s.drop (i + 1)) (by rw [List.length_drop]; omega)
      rw [Lib.count_hit (by simp) h1, hsp]
      simp only [List.length_cons, List.length_nil, Nat.zero_add] at h2 ⊢
      rw [Nat.add_comm 1]
      refine ⟨?_, by omega⟩
      rw [Lib.splitK, h1]
      rw [if_neg (by simp)]
      simp only [Int.toNat_natCast, Nat.add_zero, List.length_cons, List.length_nil, Nat.zero_add]
      rw [h2.1]

theorem splitB_pieces (c : UInt8) (s : ByteArray) : Lib.splitB ⟨#[c]⟩ 0 (Lib.countB s ⟨#[c]⟩) s = piecesB c s ∧ Lib.countB s ⟨#[c]⟩ + 1 = (splitL c s.data.toList).length := by
  have h := splitK_eq c _ s.data.toList (Nat.le_refl _)
  refine ⟨?_, h.2⟩
  have h2 := Lib.splitB_data ⟨#[c]⟩ 0 (Lib.countB s ⟨#[c]⟩) s
  have h3 : (Lib.splitB ⟨#[c]⟩ 0 (Lib.countB s ⟨#[c]⟩) s).map (·.data.toList) = splitL c s.data.toList := h2.trans h.1
  unfold piecesB
  rw [← h3, List.map_map]
  exact ((List.map_congr_left (fun a _ => data_mkB a)).trans (List.map_id _)).symm

/-- strings.Split at a separator of one byte: a new block with the pieces. -/
theorem split_any (s : ByteArray) (c : UInt8) (w : World) (hs : s.size ≤ 1000000) (hm : MaxOk w) :
    Calls Tryz.prog 93 #[.string s, .string ⟨#[c]⟩] w fun e w' => ∃ n, n = (splitL c s.data.toList).length ∧ e = .returned (.slice (some ⟨w.heap.size, 0, none⟩) n n) ∧ w' = w.alloc (.cells (strVs (splitL c s.data.toList)).toArray 9) := by
  obtain ⟨_, _, m, hm⟩ := hm
  refine (Tryz.strings_Split s ⟨#[c]⟩ m w (by omega) hm (by simp [ByteArray.size])).mono fun e w' ⟨he, hw⟩ => ?_
  obtain ⟨h1, h2⟩ := splitB_pieces c s
  refine ⟨_, rfl, by rw [he, h2], ?_⟩
  rw [hw, h1]
  unfold piecesB strVs strV
  rw [List.map_map]
  rfl

theorem reads_new (W : World) (xs : List Bs) (k : Nat) (hk : W.heap[k]? = some (.cells (strVs xs).toArray 9 (0, 0))) : Reads strV W (some ⟨k, 0, none⟩) xs := by
  intro j x hx
  refine ⟨k, rfl, ?_⟩
  simp only [World.cell?, hk]
  unfold strVs
  simp [hx]

def many1B (p : Bs) : Bool := p == [42, 42]
theorem match1_any : ManyS 91 many1B := by
  intro x w _
  have hr : many1B x = ((mkB x).toList == [42, 42]) := by rw [ByteArray.toList_eq, mkB_data]; rfl
  have HR := Lib.hid hr; clear hr
  go_enter Tryz.func91, Tryz.ntmps91
  go_wp2_with fail
  go_ret
  exact ⟨ret_bool HR.out.symm, rfl⟩
theorem fits_one : OneS 94 fitsB := by
  intro x y w hx hy
  refine (fits_any (mkB x) (mkB y) w (by rw [mkB_size]; omega) (by rw [mkB_size]; omega)).mono fun e w' ⟨he, hw⟩ => ⟨?_, hw⟩
  rw [he, mkB_data, mkB_data]

theorem partsB_len {p : Bs → Bool} {s : ByteArray} (h : partsB p s.data.toList = true) : s.size ≤ 100 := by
  unfold partsB at h
  rw [Bool.and_eq_true, decide_eq_true_eq, Array.length_toList] at h
  exact h.1
theorem piece_len (c : UInt8) (s : ByteArray) (x : Bs) (h : x ∈ splitL c s.data.toList) : x.length ≤ s.size := by
  have := piecesB_small c s (mkB x) (by unfold piecesB; exact List.mem_map.2 ⟨x, h, rfl⟩)
  rwa [mkB_size] at this

set_option maxHeartbeats 2000000 in
theorem match_any (g s : ByteArray) (w : World) (hg : g.size ≤ maxLen) (hs : s.size ≤ maxLen) (hm : MaxOk w) :
    Calls Tryz.prog 59 #[.string g, .string s] w fun e w' => e = .returned (.bool (matchB g.data.toList s.data.toList)) ∧ Below w.heap.size w w' := by
  cases h1 : globB g.data.toList with
  | false =>
    have hr : matchB g.data.toList s.data.toList = false := by unfold matchB; rw [h1]; rfl
    have HR := Lib.hid hr; clear hr
    have H1 := Lib.hid h1; clear h1
    go_enter Tryz.func59, Tryz.ntmps59
    go_wp2_with fail
    refine (glob_any g _ hg hm).mono ?_
    rintro e w1 ⟨rfl, hb1⟩
    rw [H1.out]
    go_wp2_with fail
    go_ret
    exact ⟨ret_bool HR.out.symm, hb1⟩
  | true =>
    cases h2 : rightB s.data.toList with
    | false =>
      have hr : matchB g.data.toList s.data.toList = false := by unfold matchB; rw [h1, h2]; rfl
      have HR := Lib.hid hr; clear hr
      have H1 := Lib.hid h1; clear h1
      have H2 := Lib.hid h2; clear h2
      go_enter Tryz.func59, Tryz.ntmps59
      go_wp2_with fail
      refine (glob_any g _ hg hm).mono ?_
      rintro e w1 ⟨rfl, hb1⟩
      rw [H1.out]
      go_wp2_with fail
      refine (right_any s _ hs (hm.below hb1)).mono ?_
      rintro e w2 ⟨rfl, hb2⟩
      rw [H2.out]
      have hb3 := hb1.trans (hb2.mono hb1.size)
      go_wp2_with fail
      go_ret
      exact ⟨ret_bool HR.out.symm, hb3⟩
    | true =>
      have hr : matchB g.data.toList s.data.toList = partedB many1B fitsB (splitL 47 g.data.toList) (splitL 47 s.data.toList) := by unfold matchB; rw [h1, h2]; rfl
      have lg := partsB_len h1
      have ls := partsB_len h2
      have ng := splitL_length 47 g.data.toList
      have ns := splitL_length 47 s.data.toList
      have eg : g.data.toList.length = g.size := by rw [Array.length_toList]; rfl
      have es : s.data.toList.length = s.size := by rw [Array.length_toList]; rfl
      have og : ∀ x ∈ splitL 47 g.data.toList, x.length ≤ 100 := fun x hx => Nat.le_trans (piece_len 47 g x hx) lg
      have os : ∀ x ∈ splitL 47 s.data.toList, x.length ≤ 100 := fun x hx => Nat.le_trans (piece_len 47 s x hx) ls
      have HE1 := Lib.hid (enters_of (P := Tryz.prog) Tryz.func91 (by kernel_rfl) rfl)
      have HE2 := Lib.hid (enters_of (P := Tryz.prog) Tryz.func94 (by kernel_rfl) rfl)
      have HR := Lib.hid hr; clear hr
      have H1 := Lib.hid h1; clear h1
      have H2 := Lib.hid h2; clear h2
      have HOG := Lib.hid og; clear og
      have HOS := Lib.hid os; clear os
      have HEG := Lib.hid eg; clear eg
      have HES := Lib.hid es; clear es
      have HNG := Lib.hid ng; clear ng
      have HNS := Lib.hid ns; clear ns
      go_enter Tryz.func59, Tryz.ntmps59
      go_wp2_with fail
      refine (glob_any g _ hg hm).mono ?_
      rintro e w1 ⟨rfl, hb1⟩
      rw [H1.out]
      go_wp2_with fail
      refine (right_any s _ hs (hm.below hb1)).mono ?_
      rintro e w2 ⟨rfl, hb2⟩
      rw [H2.out]
      have hb3 := hb1.trans (hb2.mono hb1.size)
      clear hb1 hb2
      have hm2 := hm.below hb3
      go_wp2_with fail
      refine (split_any g 47 _ (by omega) hm2).mono ?_
      rintro e w3 ⟨n1, hn1, rfl, hw3⟩
      have N1 := Lib.hid hn1; clear hn1
      have W3 := Lib.hid hw3; clear hw3
      have hb4 : Below w2.heap.size w2 w3 := by rw [W3.out]; exact (Below.refl _ _).alloc (Nat.le_refl _) _
      have hm3 := hm2.below hb4
      go_wp2_with fail
      refine (split_any s 47 _ (by omega) hm3).mono ?_
      rintro e w4 ⟨n2, hn2, rfl, hw4⟩
      have N2 := Lib.hid hn2; clear hn2
      have W4 := Lib.hid hw4; clear hw4
      have hb5 : Below w3.heap.size w3 w4 := by rw [W4.out]; exact (Below.refl _ _).alloc (Nat.le_refl _) _
      go_wp2_with fail
      have hw3 : w3.heap[w2.heap.size]? = some (.cells (strVs (splitL 47 g.data.toList)).toArray 9 (0, 0)) := by rw [W3.out]; exact World.alloc_heap_new _ _
      have hw4 : w4.heap[w3.heap.size]? = some (.cells (strVs (splitL 47 s.data.toList)).toArray 9 (0, 0)) := by rw [W4.out]; exact World.alloc_heap_new _ _
      have r1 := reads_new w4 _ _ ((hb5.block _ (Array.getElem?_eq_some_iff.1 hw3).1).trans hw3)
      have r2 := reads_new w4 _ _ hw4
      have e1 := N1.out
      have e2 := N2.out
      have e3 := HNG.out
      have e4 := HNS.out
      have e5 := HEG.out
      have e6 := HES.out
      have H := partedS_any _ _ many1B fitsB (splitL 47 g.data.toList) (splitL 47 s.data.toList) _ _ n1 n2 w4 (by omega) (by omega) (by omega) (by omega) HE1.out HE2.out match1_any fits_one HOG.out HOS.out r1 r2
      rw [← e1, ← e2] at H
      refine H.mono ?_
      rintro e w5 ⟨rfl, hb6⟩
      have hb7 := ((hb3.trans (hb4.mono hb3.size)).trans (hb5.mono (Nat.le_trans hb3.size hb4.size))).trans (hb6.mono (Nat.le_trans hb3.size (Nat.le_trans hb4.size hb5.size)))
      clear H r1 r2 hb3 hb4 hb5 hb6 hw3 hw4 hm hm2 hm3 e1 e2 e3 e4 e5 e6
      go_wp2_with fail
      go_ret
      exact ⟨ret_bool HR.out.symm, hb7⟩
end Go.Proofs.YtkihgbggndikpaaGreatDoor
