/-
  What the laws of layer 3 call: known, Long, small. · What the laws of layer 3 call: small.
-/
import Derived.Test.YtffhfllikamccaaGreatDoorGCommit
import Derived.Test.YtffhfllikamccaaGreatDoorShelf
import Derived.Test.YtffhfllikamccaaGreatDoorTLo
import Derived.Lib.SlBytesConst
namespace Go.Proofs.YtffhfllikamccaaGreatDoor
open Go Go.RowKit Go.Shelf Go.Proofs Go.ChangeMaps Go.Maps Go.WideMaps
attribute [local go_sem] Oper.semAt_some

def dA : DX := ⟨1, ⟨#[97]⟩, none, 0, []⟩
theorem apply_dA : applyT (flsX []) ([dA].map DX.dl) = .ok [([97], [])] := by kernel_rfl

set_option maxRecDepth 100000 in
set_option maxHeartbeats 8000000 in
theorem hknown_any (w : World) (hm : MaxOk w) : Calls Tryz.prog 6 #[] w fun e w' => e = .returned (.bool true) ∧ Below w.heap.size w w' := by
  have HNEW := Lib.hid (hnew_any [] none 0 w (TreeAt.nil _ _ _ (Nat.zero_le _)) (fun x hx => by cases hx) hm)
  have HM := Lib.hid hm
  clear hm
  go_enter Tryz.func6, Tryz.ntmps6
  go_wp2_with fail
  refine HNEW.out.mono ?_
  intro e w1 hp
  unfold NewPost at hp
  rw [if_pos (by rfl)] at hp
  obtain ⟨hb, nv, cv, mb, k, D, G0, l0, rfl, hH, _, hb1⟩ := hp
  go_wp2_with fail
  obtain ⟨W1, hW1⟩ : ∃ W, w1.alloc (.cells #[.int .i64 1, .string ⟨#[97]⟩, .slice none 0 0] 62) = W := ⟨_, rfl⟩
  have g1 := heap_alloc_new w1 (.cells #[.int .i64 1, .string ⟨#[97]⟩, .slice none 0 0] 62)
  have b1 := below_box w1 (.cells #[.int .i64 1, .string ⟨#[97]⟩, .slice none 0 0] 62)
  rw [hW1] at g1 b1 ⊢
  have hbl : hb < w1.heap.size := (Array.getElem?_eq_some_iff.1 hH.heap).1
  have hgl := (Array.getElem?_eq_some_iff.1 g1).1
  have hd : DelsKeep W1 hb (some ⟨w1.heap.size, 0, none⟩) 1 [dA] := fun w' _ hq => by
    have hk := (hq w1.heap.size hgl (by omega)).trans g1
    refine ⟨Nat.le_refl _, by unfold maxLen; omega, fun _ => ⟨w1.heap.size, 0, rfl, fun i x hx => ?_⟩, fun x hx => ?_⟩
    · have hi : i = 0 := by
        have := (List.getElem?_eq_some_iff.1 hx).1
        simpa using this
      subst hi
      obtain rfl : dA = x := by simpa using hx
      exact ⟨cell_of_row w' w1.heap.size 0 _ _ _ hk, cell_of_row w' w1.heap.size 1 _ _ _ hk, cell_of_row w' w1.heap.size 2 _ _ _ hk⟩
    · obtain rfl : x = dA := by simpa using hx
      exact BytesAt.nil _ _
  have hs : SmallD [dA] := ⟨by simp, fun x hx => by
    obtain rfl : x = dA := by simpa using hx
    exact ⟨by decide, by decide⟩⟩
  have hb1W := hb1.trans (b1.mono hb1.size)
  have HC := Lib.hid (hcommit_any w hb 0 (bareX []) (fun _ => 0) nv cv mb k D _ [dA] (some ⟨w1.heap.size, 0, none⟩) 1 W1 (hH.below b1) hb1W (by omega) hd hs HM.out)
  have HB1W := Lib.hid hb1W
  clear hd hs hb1W b1 g1 hW1 hbl hgl hH
  refine HC.out.mono ?_
  intro e w2 hp
  rcases hp with ⟨q, hq, hap, _, _⟩ | ⟨nm', nv', cv', mb', k', D', G', _, _, rfl, hH2, hb2, _⟩
  · rcases hap with h | h
    · cases h
    · have h2 := apply_dA
      have h3 : applyT (flsX (bareX [])) ([dA].map DX.dl) = .error q := h
      have h4 : flsX (bareX []) = flsX [] := rfl
      rw [h4, h2] at h3
      cases h3
  have hla := hlast_any hb mb' k' D' _ ⟨#[97]⟩ (by unfold maxLen; decide) w2 (cell_of_row w2 hb 2 _ _ _ hH2.heap) hH2.map hH2.revs
  have hlb := hlast_any hb mb' k' D' _ ⟨#[98]⟩ (by unfold maxLen; decide) w2 (cell_of_row w2 hb 2 _ _ _ hH2.heap) hH2.map hH2.revs
  have ea : (if (⟨#[97]⟩ : ByteArray).data.toList ∈ ([dA].map fun x => x.p.data.toList) then 0 + 1 else 0) = 1 := by decide
  have eb : (if (⟨#[98]⟩ : ByteArray).data.toList ∈ ([dA].map fun x => x.p.data.toList) then 0 + 1 else 0) = 0 := by decide
  rw [ea] at hla
  rw [eb] at hlb
  have HLA := Lib.hid hla
  have HLB := Lib.hid hlb
  have HN := Lib.hid (hhead_nil w2)
  have HBZ := Lib.hid (HB1W.out.trans hb2)
  clear hla hlb ea eb hH2 hb2 hb1
  go_wp2_with fail
  refine HLA.out.mono ?_
  rintro e w9 ⟨rfl, hw9⟩
  have hw9 := hw9.symm
  subst hw9
  go_wp2_with fail
  refine HLB.out.mono ?_
  rintro e w9 ⟨rfl, hw9⟩
  have hw9 := hw9.symm
  subst hw9
  go_wp2_with fail
  refine HN.out.mono ?_
  rintro e w9 ⟨rfl, hw9⟩
  have hw9 := hw9.symm
  subst hw9
  go_wp2_with fail
  go_ret
  exact ⟨rfl, HBZ.out⟩
theorem longDN_take (l : List DX) (k : Nat) : longDN (l.take k) ≤ longDN l := by
  have e : longDN l = longDN (l.take k) + longDN (l.drop k) := by
    unfold longDN
    rw [← List.sum_append, ← List.map_append, List.take_append_drop]
  omega
theorem longDN_len (l : List DX) : l.length ≤ longDN l := by
  induction l with
  | nil => exact Nat.zero_le _
  | cons x l ih =>
    have e : longDN (x :: l) = 1 + x.p.size + x.b.length + longDN l := by unfold longDN; simp [DX.long]
    rw [e, List.length_cons]
    omega
set_option maxRecDepth 100000 in
set_option maxHeartbeats 4000000 in
theorem reflongdeltas_many (l : List DX) (A : Option Addr) (c : Nat) (w : World) (h : DelsAt w A c l) (hl : longDN l ≤ 4611686018427387904) :
    Calls Tryz.prog 46 #[.slice A l.length c] w fun e w' => e = .returned (.int .i64 (longDN l)) ∧ Below w.heap.size w w' := by
  have HT := Lib.hid h; clear h
  have HLB := Lib.hid hl
  have hll := longDN_len l
  clear hl
  have hlm : l.length ≤ 4611686018427387904 := Nat.le_trans hll HLB.out
  go_enter Tryz.func46, Tryz.ntmps46
  go_wp2_with fail
  go_loopw [3, 4] (fun s i wr => ∃ (k : Nat), k ≤ l.length ∧ s = .int .i64 (longDN (l.take k)) ∧ i = .int .i64 k ∧ Below w.heap.size w wr) (fun _ i _ => l.length - (intOf i).toNat)
  case atStart => exact ⟨0, Nat.zero_le _, rfl, rfl, Below.refl _ _⟩
  case round =>
    obtain ⟨k, hk, rfl, rfl, hbr⟩ := hrel
    by_cases h1 : k < l.length
    · obtain ⟨x, hx⟩ : ∃ x, l[k]? = some x := ⟨_, List.getElem?_eq_getElem h1⟩
      obtain ⟨b, o, hA, hr⟩ := (HT.out.below hbr).row (by omega)
      subst hA
      obtain ⟨_, c1, c2⟩ := hr k x hx
      have hsn := longDN_snoc hx
      have hle : longDN (l.take (k + 1)) ≤ longDN l := longDN_take l (k + 1)
      have hlb := HLB.out
      rw [hsn] at hle
      have k1 : (k : Int) < (l.length : Int) := by omega
      generalize longDN (l.take k) = n at *
      have e1 : IntKind.i64.wrap ((n : Int) + 1) = (n : Int) + 1 := IntWalk.i64_in _ (by omega)
      have e2 : IntKind.i64.wrap ((n : Int) + 1 + (x.p.size : Int)) = (n : Int) + 1 + (x.p.size : Int) := IntWalk.i64_in _ (by omega)
      have e3 : IntKind.i64.wrap ((n : Int) + 1 + (x.p.size : Int) + (x.b.length : Int)) = (n : Int) + 1 + (x.p.size : Int) + (x.b.length : Int) := IntWalk.i64_in _ (by omega)
      clear hr hle hlb
      have HX := Lib.hid hx; clear hx
      have HSN := Lib.hid hsn; clear hsn
      go_wp2_with fail
      go_region
      go_wp2_with fail
      go_roundw
      case rel => exact ⟨k + 1, by omega, by rw [HSN.out]; go_num, by go_num, hbr.drew⟩
      case measure => simp [intOf]; omega
    · obtain rfl : k = l.length := by omega
      have hln : longDN (l.take l.length) = longDN l := by rw [List.take_length]
      have HLN := Lib.hid hln; clear hln
      go_wp2_with fail
      go_ret
      exact ⟨by rw [← HLN.out]; rfl, hbr⟩

def longLN (l : List LX) : Nat := (l.map fun x => 1 + longDN x.d).sum
theorem longLN_take (l : List LX) (k : Nat) : longLN (l.take k) ≤ longLN l := by
  have e : longLN l = longLN (l.take k) + longLN (l.drop k) := by
    unfold longLN
    rw [← List.sum_append, ← List.map_append, List.take_append_drop]
  omega
theorem longLN_snoc {l : List LX} {k : Nat} {x : LX} (hx : l[k]? = some x) : longLN (l.take (k + 1)) = longLN (l.take k) + 1 + longDN x.d := by
  unfold longLN
  rw [List.take_add_one, hx, List.map_append, List.sum_append]
  simp; omega
theorem longLN_mem {l : List LX} {x : LX} (h : x ∈ l) : 1 + longDN x.d ≤ longLN l := by
  induction l with
  | nil => cases h
  | cons y l ih =>
    have e : longLN (y :: l) = 1 + longDN y.d + longLN l := by unfold longLN; simp
    rw [e]
    rcases List.mem_cons.1 h with rfl | h
    · omega
    · have := ih h; omega
set_option maxRecDepth 100000 in
set_option maxHeartbeats 4000000 in
theorem hreflong_any (l : List LX) (A : Option Addr) (c : Nat) (w : World) (h : LRowAt w A c l) (hl : longLN l ≤ 4611686018427387904) :
    Calls Tryz.prog 26 #[.slice A l.length c] w fun e w' => e = .returned (.int .i64 (longLN l)) ∧ Below w.heap.size w w' := by
  have hlm : l.length ≤ maxLen := Nat.le_trans h.cap h.capm
  unfold maxLen at hlm
  have HT := Lib.hid h; clear h
  have HLB := Lib.hid hl; clear hl
  go_enter Tryz.func26, Tryz.ntmps26
  go_wp2_with fail
  go_loopw [3, 4] (fun s i wr => ∃ (k : Nat), k ≤ l.length ∧ s = .int .i64 (longLN (l.take k)) ∧ i = .int .i64 k ∧ Below w.heap.size w wr) (fun _ i _ => l.length - (intOf i).toNat)
  case atStart => exact ⟨0, Nat.zero_le _, rfl, rfl, Below.refl _ _⟩
  case round =>
    obtain ⟨k, hk, rfl, rfl, hbr⟩ := hrel
    by_cases h1 : k < l.length
    · obtain ⟨x, hx⟩ : ∃ x, l[k]? = some x := ⟨_, List.getElem?_eq_getElem h1⟩
      have hT := HT.out.below hbr
      obtain ⟨b, o, hA, hr⟩ := hT.row (by omega)
      subst hA
      have c1 := hr k x hx
      have hmem := List.mem_of_getElem? hx
      have hsn := longLN_snoc hx
      have hle : longLN (l.take (k + 1)) ≤ longLN l := longLN_take l (k + 1)
      have hlb := HLB.out
      rw [hsn] at hle
      have hmm := longLN_mem hmem
      have HLD := Lib.hid (reflongdeltas_many x.d x.A x.c wr (hT.dels x hmem) (by omega))
      have k1 : (k : Int) < (l.length : Int) := by omega
      generalize longLN (l.take k) = n at *
      generalize longDN x.d = m at *
      have e1 : IntKind.i64.wrap ((n : Int) + 1) = (n : Int) + 1 := IntWalk.i64_in _ (by omega)
      have e2 : IntKind.i64.wrap ((n : Int) + 1 + (m : Int)) = (n : Int) + 1 + (m : Int) := IntWalk.i64_in _ (by omega)
      have HSN := Lib.hid hsn
      clear hr hle hlb hsn hx hmem hmm hT
      go_wp2_with fail
      refine HLD.out.mono ?_
      rintro e w2 ⟨rfl, hq2⟩
      have hb2 := hbr.trans (hq2.mono hbr.size)
      clear hq2
      go_wp2_with fail
      go_roundw
      case rel => exact ⟨k + 1, by omega, by rw [HSN.out]; go_num, by go_num, hb2⟩
      case measure => simp [intOf]; omega
    · obtain rfl : k = l.length := by omega
      have hln : longLN (l.take l.length) = longLN l := by rw [List.take_length]
      have HLN := Lib.hid hln; clear hln
      go_wp2_with fail
      go_ret
      exact ⟨by rw [← HLN.out]; rfl, hbr⟩

def hsmallL (t : List FX) (l : List LX) : Bool := decide (t.length ≤ 30) && decide (longN t ≤ 2000) && decide (l.length ≤ 25) && decide (longLN l ≤ 3000)
end Go.Proofs.YtffhfllikamccaaGreatDoor
namespace Go.Proofs.YtffhfllikamccaaGreatDoor
open Go Go.RowKit Go.Shelf Go.Proofs Go.ChangeMaps Go.Maps Go.WideMaps
attribute [local go_sem] Oper.semAt_some

set_option maxRecDepth 100000 in
set_option maxHeartbeats 8000000 in
theorem hsmall_any (t : List FX) (l : List LX) (A B : Option Addr) (c d : Nat) (w : World) (ht : TreeAt w A c t) (zt : BigX t) (hl : LRowAt w B d l) (hb : longLN l ≤ 4611686018427387904) :
    Calls Tryz.prog 5 #[.slice A t.length c, .slice B l.length d] w fun e w' => e = .returned (.bool (hsmallL t l)) ∧ Below w.heap.size w w' := by
  have HL := Lib.hid hl
  have HB := Lib.hid hb
  have HT := Lib.hid ht
  have HZ := Lib.hid zt
  clear hl hb ht zt
  by_cases h1 : t.length ≤ 30
  · have k1 : (t.length : Int) ≤ 30 := by omega
    have H1 := Lib.hid h1
    have HG := Lib.hid (reflong_any t A c w HT.out (by omega) HZ.out)
    clear h1
    go_enter Tryz.func5, Tryz.ntmps5
    go_wp2_with fail
    refine HG.out.mono ?_
    rintro e w1 ⟨rfl, hb1⟩
    by_cases h2 : longN t ≤ 2000
    · have k2 : (longN t : Int) ≤ 2000 := by omega
      have H2 := Lib.hid h2
      clear h2
      by_cases h3 : l.length ≤ 25
      · have k3 : (l.length : Int) ≤ 25 := by omega
        have H3 := Lib.hid h3
        have HG2 := Lib.hid (hreflong_any l B d w1 (HL.out.below hb1) HB.out)
        clear h3
        go_wp2_with fail
        refine HG2.out.mono ?_
        rintro e w2 ⟨rfl, hb2⟩
        have HB2 := Lib.hid (hb1.trans (hb2.mono hb1.size))
        clear hb2
        by_cases h4 : longLN l ≤ 3000
        · have k4 : (longLN l : Int) ≤ 3000 := by omega
          have H4 := Lib.hid h4
          clear h4
          go_wp2_with fail
          go_ret
          have e : hsmallL t l = true := by unfold hsmallL; simp [H1.out, H2.out, H3.out, H4.out]
          exact ⟨by rw [e]; rfl, HB2.out⟩
        · have k4 : ¬ (longLN l : Int) ≤ 3000 := by omega
          have H4 := Lib.hid h4
          clear h4
          go_wp2_with fail
          go_ret
          have e : hsmallL t l = false := by unfold hsmallL; simp [H1.out, H2.out, H3.out]; have := H4.out; omega
          exact ⟨by rw [e]; show Ending.returned (Value.bool (decide ((longLN l : Int) ≤ 3000))) = _; rw [decide_eq_false (by have := H4.out; omega)], HB2.out⟩
      · have k3 : ¬ (l.length : Int) ≤ 25 := by omega
        have H3 := Lib.hid h3
        clear h3
        go_wp2_with fail
        go_ret
        have e : hsmallL t l = false := by unfold hsmallL; simp [H3.out]
        exact ⟨by rw [e]; rfl, hb1⟩
    · have k2 : ¬ (longN t : Int) ≤ 2000 := by omega
      have H2 := Lib.hid h2
      clear h2
      go_wp2_with fail
      go_ret
      have e : hsmallL t l = false := by unfold hsmallL; simp [H2.out]
      exact ⟨by rw [e]; rfl, hb1⟩
  · have k1 : ¬ (t.length : Int) ≤ 30 := by omega
    have H1 := Lib.hid h1
    clear h1
    go_enter Tryz.func5, Tryz.ntmps5
    go_wp2_with fail
    go_ret
    have e : hsmallL t l = false := by unfold hsmallL; simp [H1.out]
    exact ⟨by rw [e]; rfl, Below.refl _ _⟩
end Go.Proofs.YtffhfllikamccaaGreatDoor
