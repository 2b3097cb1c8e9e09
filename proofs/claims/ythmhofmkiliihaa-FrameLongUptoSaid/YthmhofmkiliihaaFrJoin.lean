/-
  frame.Join; the laws' helpers Long, SameLists; known.
-/
import Derived.Test.YthmhofmkiliihaaFrAll
namespace Go.Proofs.Ythmhofmkiliihaa
open Go Go.RowKit Go.Shelf Go.Proofs

/-- The frames of the first k. -/
def joinTo (l : List BX) (k : Nat) : Bs := joinF ((l.take k).map BX.b)
theorem joinTo_next {l : List BX} {k : Nat} {x : BX} (hx : l[k]? = some x) : joinTo l (k + 1) = joinTo l k ++ encF x.b := by
  unfold joinTo
  rw [List.take_add_one, hx, List.map_append, join_append]
  congr 1
  unfold joinF; simp
theorem joinTo_le (l : List BX) (k : Nat) : (joinTo l k).length ≤ lenF (l.map BX.b) := by
  unfold joinTo
  rw [List.map_take]
  exact lenF_take _ _
theorem joinTo_all (l : List BX) : joinTo l l.length = joinF (l.map BX.b) := by unfold joinTo; rw [List.take_length]

set_option maxHeartbeats 4000000 in
theorem join_any (l : List BX) (A : Option Addr) (c : Nat) (w : World) (h : BRowAt w A c l) (hnil : ∀ x ∈ l, x.A = none → x.c = 0) (hlen : ∀ x ∈ l, x.b.length ≤ 65536) (hl : lenF (l.map BX.b) ≤ 1000000) :
    Calls Try.prog 16 #[.slice A l.length c] w fun e w' => ∃ v, e = .returned (.tuple #[v, .int .i64 0]) ∧ OB w.heap.size w' v (joinF (l.map BX.b)) ∧ Below w.heap.size w w' := by
  have hcap : l.length ≤ maxLen := Nat.le_trans h.cap h.capm
  unfold maxLen at hcap
  have hle := joinTo_le l
  have HALL := Lib.hid (joinTo_all l)
  have HT := Lib.hid h; clear h
  have HN := Lib.hid hnil; clear hnil
  have HLE := Lib.hid hle; clear hle
  have HLN := Lib.hid hlen; clear hlen
  have HTOT := Lib.hid hl; clear hl
  go_enter Try.func16, Try.ntmps16
  go_wp2_with fail
  go_loopw [4, 11] (fun v i wr => ∃ (k : Nat), k ≤ l.length ∧ i = .int .i64 k ∧ Hid (OB w.heap.size wr v (joinTo l k)) ∧ Below w.heap.size w wr) (fun _ i _ => l.length - (intOf i).toNat)
  case atStart => exact ⟨0, Nat.zero_le _, rfl, OB.nil _ _, Below.refl _ _⟩
  case round =>
    obtain ⟨k, hk, rfl, HO, hbr⟩ := hrel
    by_cases h1 : k < l.length
    · obtain ⟨x, hx⟩ : ∃ x, l[k]? = some x := ⟨_, List.getElem?_eq_getElem h1⟩
      obtain ⟨g, o, rfl, hr⟩ := (HT.out.below hbr).row (by omega)
      have c1 := hr k x hx
      have k1 : (k : Int) < (l.length : Int) := by omega
      have hn := joinTo_next hx
      have hle := HLE.out (k + 1)
      have htot := HTOT.out
      have hmem := List.mem_of_getElem? hx
      have hcx := HT.out.caps x hmem
      have HE := Lib.hid (encode_any x.b x.A x.c wr ⟨(HT.out.bytes x hmem).below hbr, hcx.1, hcx.2.1, HN.out x hmem⟩ (HLN.out x hmem))
      rw [hn, List.length_append] at hle
      have HNX := Lib.hid hn
      have hlen : (joinTo l k).length + (encF x.b).length ≤ 1000000 := by omega
      have hsz := hbr.size
      clear hr hx hn hle hcx htot
      go_wp2_with fail
      refine HE.out.mono ?_
      clear HE
      rintro e w1 ⟨v1, rfl, ho1, hb1⟩
      obtain ⟨A1, c1', rfl, hs1, _⟩ := ho1.sl
      have HOA := Lib.hid (HO.out.below hb1)
      have HS1 := Lib.hid hs1
      have hbw := hbr.trans (hb1.mono hbr.size)
      have HBW := Lib.hid hbw
      have hsz1 := hbw.size
      clear hs1 ho1 hb1 hbr HO hbw hsz
      go_wp2_with (at_builtin; refine wpList_appB rfl _ _ rfl rfl HOA.out rfl HS1.out hlen hsz1 ?_; intro v2 w2 hown2 hgrow2)
      have hb2 := below_app HBW.out HOA.out hgrow2 (Nat.le_refl _) hsz1
      rw [← HNX.out] at hown2
      go_wp2_with fail
      go_roundw
      case rel => exact ⟨k + 1, by omega, by go_num, hown2, hb2⟩
      case measure => simp [intOf]; omega
    · obtain rfl : k = l.length := by omega
      go_wp2_with fail
      go_ret2
      exact ⟨_, rfl, HALL.out ▸ HO.out, hbr⟩

def longBN (l : List BX) : Nat := (l.map fun x => 1 + x.b.length).sum
theorem longBN_next {l : List BX} {k : Nat} {x : BX} (hx : l[k]? = some x) : longBN (l.take (k + 1)) = longBN (l.take k) + 1 + x.b.length := by
  unfold longBN
  rw [List.take_add_one, hx, List.map_append, List.sum_append]
  simp [Nat.add_assoc]
theorem longBN_take (l : List BX) (k : Nat) : longBN (l.take k) ≤ longBN l := by
  conv => rhs; rw [← List.take_append_drop k l]
  unfold longBN
  rw [List.map_append, List.sum_append]; omega
theorem longBN_len (l : List BX) : l.length ≤ longBN l := by
  unfold longBN
  induction l with
  | nil => simp
  | cons x l ih => rw [List.map_cons, List.sum_cons, List.length_cons]; omega
theorem longBN_mem {l : List BX} {x : BX} (h : x ∈ l) : 1 + x.b.length ≤ longBN l := by
  unfold longBN
  induction l with
  | nil => cases h
  | cons y l ih =>
    rw [List.map_cons, List.sum_cons]
    rcases List.mem_cons.1 h with rfl | h
    · omega
    · have := ih h; omega
theorem lenF_long (l : List BX) : lenF (l.map BX.b) ≤ 8 * longBN l := by
  unfold longBN
  induction l with
  | nil => simp [lenF, joinF]
  | cons y l ih => rw [List.map_cons, List.map_cons, List.sum_cons, lenF_cons]; omega

set_option maxHeartbeats 4000000 in
theorem long_any (l : List BX) (A : Option Addr) (c : Nat) (w : World) (h : BRowAt w A c l) (hl : longBN l ≤ 9223372036854775807) :
    Calls Try.prog 15 #[.slice A l.length c] w fun e w' => e = .returned (.int .i64 (longBN l : Nat)) ∧ Below w.heap.size w w' := by
  have hcap := longBN_len l
  have HT := Lib.hid h; clear h
  go_enter Try.func15, Try.ntmps15
  go_wp2_with fail
  go_loopw [3, 4] (fun v i wr => ∃ (k : Nat), k ≤ l.length ∧ v = .int .i64 (longBN (l.take k) : Nat) ∧ i = .int .i64 k ∧ wr = w) (fun _ i _ => l.length - (intOf i).toNat)
  case atStart => exact ⟨0, Nat.zero_le _, rfl, rfl, by trivial⟩
  case round =>
    obtain ⟨k, hk, rfl, rfl, hw⟩ := hrel
    have hw := hw.symm
    subst hw
    by_cases h1 : k < l.length
    · obtain ⟨x, hx⟩ : ∃ x, l[k]? = some x := ⟨_, List.getElem?_eq_getElem h1⟩
      obtain ⟨g, o, rfl, hr⟩ := HT.out.row (by omega)
      have c1 := hr k x hx
      have k1 : (k : Int) < (l.length : Int) := by omega
      have hn := longBN_next hx
      have ht := longBN_take l (k + 1)
      have HNX := Lib.hid hn
      rw [hn] at ht
      generalize longBN (l.take k) = V at *
      have w1 : IntKind.i64.wrap ((V : Int) + 1) = (V : Int) + 1 := IntWalk.i64_in _ (by omega)
      have w2 : IntKind.i64.wrap ((V : Int) + 1 + (x.b.length : Int)) = (V : Int) + 1 + (x.b.length : Int) := IntWalk.i64_in _ (by omega)
      clear hr hx hn ht
      go_wp2_with fail
      go_roundw
      case rel => exact ⟨k + 1, by omega, by rw [HNX.out]; go_num, by go_num, by trivial⟩
      case measure => simp [intOf]; omega
    · obtain rfl : k = l.length := by omega
      rw [List.take_length] at *
      go_wp2_with fail
      go_ret
      exact ⟨rfl, Below.refl _ _⟩
end Go.Proofs.Ythmhofmkiliihaa
