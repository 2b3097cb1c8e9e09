/-
  What only reads of a disk: bytes cloned and compared; refusal, Dead, Used, Read, Lasting.
-/
import Derived.Test.YtojkifcclgecoaaDkPow
import Derived.Deep.QuietTactic
import Derived.BigQuiet
namespace Go.Proofs.Ytojkifcclgecoaa.Dk
open Go Go.RowKit Go.Shelf Go.Proofs

theorem fr_str (w : World) (A : Option Addr) (c : Nat) (b : Bs) (h : BytesAt w A b) : (convert 29 9 (.slice A b.length c)).run Try.prog w = .ok (.string (mkB b)) w := by
  cases b with
  | nil => exact run_convert_bytes_zero w 29 5 Try.underlying29 Try.underlying5 A c 9 Try.underlying9
  | cons x r =>
    obtain ⟨g, o, rfl, hc⟩ := h (by simp)
    refine run_convert_bytes_back w 29 9 5 ⟨g, o, none⟩ c (x :: r) Try.underlying29 Try.underlying5 Try.underlying9 fun j hj => ?_
    rw [Go.WideShapes.add_plain, hc j hj]
    have e : (numsB (x :: r))[j]? = some (((x :: r)[j].toNat : Nat) : Int) := by unfold numsB; rw [List.getElem?_map, List.getElem?_eq_getElem hj]; rfl
    rw [List.getD, e]; rfl
theorem fr_mkB_eq (a b : Bs) : ((mkB a).toList == (mkB b).toList) = (a == b) := by
  rw [ByteArray.toList_eq, ByteArray.toList_eq, mkB_data, mkB_data]
set_option maxHeartbeats 1000000 in
theorem frsame_any (a b : Bs) (A B : Option Addr) (c d n m : Nat) (w : World) (ha : BytesAt w A a) (hb : BytesAt w B b) (hn : a.length = n) (hm : b.length = m) :
    Calls Try.prog 20 #[.slice A n c, .slice B m d] w fun e w' => e = .returned (.bool (a == b)) ∧ Below w.heap.size w w' := by
  subst hn hm
  have h1 := fr_str w A c a ha
  have h2 := fr_str w B d b hb
  have he := fr_mkB_eq a b
  have HE := Lib.hid he; clear he
  go_enter Try.func20, Try.ntmps20
  go_wp2_with fail
  go_ret
  exact ⟨ret_b HE.out, Below.refl _ _⟩

/-- bytes.Clone. -/
theorem clone_any (A : Option Addr) (n c : Nat) (b : Bs) (w : World) (h : SlAt w A c b) (hn : b.length = n) (hl : b.length ≤ 100000000) :
    Calls Try.prog 58 #[.slice A n c] w fun e w' => ∃ v, e = .returned v ∧ OB w.heap.size w' v b ∧ Below w.heap.size w w' := by
  subst hn
  cases A with
  | none =>
    obtain ⟨rfl, rfl⟩ := h.empty
    refine (Try.bytes_Clone_nil _ _ w).mono ?_
    rintro e w' ⟨rfl, rfl⟩
    exact ⟨_, rfl, OB.nil _ _, Below.refl _ _⟩
  | some a =>
    refine (Try.bytes_Clone_at a b.length c (numsB b) w (numsB_length b) (by omega) (fun i hi => ?_)).mono ?_
    · obtain ⟨g, o, e, hc⟩ := h.bytes (by omega)
      cases e
      rw [Go.WideShapes.add_plain]
      exact hc i hi
    · rintro e w' ⟨v', rfl, hown, _, hb⟩
      have e : (numsB b).map (Value.int .u8) = valsB b := by unfold numsB valsB; rw [List.map_map]; rfl
      rw [e] at hown
      exact ⟨v', rfl, hown, hb⟩
theorem tell_any (A : Option Addr) (n c : Nat) (b : Bs) (w : World) (h : SlAt w A c b) (hn : b.length = n) (hl : b.length ≤ 100000000) :
    Calls Try.prog 54 #[.slice A n c] w fun e w' => ∃ v, e = .returned v ∧ OB w.heap.size w' v b ∧ Below w.heap.size w w' := by
  have H := Lib.hid (clone_any A n c b w h hn hl)
  clear h hn hl
  go_enter Try.func54, Try.ntmps54
  go_wp2_with fail
  refine H.out.mono ?_
  rintro e w' ⟨v, rfl, ho, hb⟩
  go_wp2_with fail
  go_ret
  exact ⟨v, rfl, ho, hb⟩

theorem refusal_any (base : Nat) (who : Nat → Nat) (w : World) (T g : Nat) (d : DDk) (a : Int) (n : Nat) (h : DiskAt base who w T g d) (hd : d.fits n) :
    Calls Try.prog 55 #[.pointer (some ⟨g, 0, none⟩), .int .i64 a] w fun e w' => e = .returned (.int .i64 (d.may a : Nat)) ∧ w' = w := by
  have HH := Lib.hid (has_any base who w T g d a n h hd)
  obtain ⟨ga, cap, L, h1, h2, h3, h4, h5, h6⟩ := h
  have HS := Lib.hid (state_any g d.room d.pw d.dead _ w h1)
  clear h1 h2 h3 h4 h5 h6 hd
  unfold DDk.may DDk.state
  cases hh : d.has a with
  | false =>
    rw [hh] at HH
    clear hh
    show Calls _ _ _ _ (fun e w' => e = .returned (.int .i64 2) ∧ w' = w)
    go_enter Try.func55, Try.ntmps55
    go_wp2_with fail
    refine HH.out.mono ?_
    rintro e w' ⟨rfl, rfl⟩
    go_wp2_with fail
    go_ret
    exact ⟨rfl, rfl⟩
  | true =>
    rw [hh] at HH
    clear hh
    show Calls _ _ _ _ (fun e w' => e = .returned (.int .i64 (stateN d.dead : Nat)) ∧ w' = w)
    generalize stateN d.dead = q at HS ⊢
    go_enter Try.func55, Try.ntmps55
    go_wp2_with fail
    refine HH.out.mono ?_
    rintro e w' ⟨rfl, hw⟩
    have hw := hw.symm
    subst hw
    go_wp2_with fail
    refine HS.out.mono ?_
    rintro e w' ⟨rfl, hw⟩
    have hw := hw.symm
    subst hw
    go_wp2_with fail
    go_ret
    exact ⟨rfl, rfl⟩
theorem refusal_nil (a : Value) (w : World) : Calls Try.prog 55 #[.pointer none, a] w fun e w' => e = .returned (.int .i64 1) ∧ w' = w := by
  go_enter Try.func55, Try.ntmps55
  go_wp2_with fail
  go_ret
  exact ⟨rfl, rfl⟩

theorem dead_any (base : Nat) (who : Nat → Nat) (w : World) (T g : Nat) (d : DDk) (h : DiskAt base who w T g d) :
    Calls Try.prog 32 #[.pointer (some ⟨g, 0, none⟩)] w fun e w' => e = .returned (.bool d.dead) ∧ w' = w := by
  obtain ⟨ga, cap, L, h1, _⟩ := h
  obtain ⟨hlt, _, c2, _⟩ := h1.cells
  clear h1
  go_enter Try.func32, Try.ntmps32
  go_wp2_with fail
  go_ret
  exact ⟨rfl, rfl⟩

theorem ar_at {L : List AX} {l : List DAr} {i : Nat} {x : AX} (h : l = L.map AX.ar) (hx : L[i]? = some x) : l[i]? = some x.ar := by rw [h, List.getElem?_map, hx]; rfl
theorem fits_at {d : DDk} {n i : Nat} {x : DAr} (h : d.fits n) (hx : d.as[i]? = some x) : x.l.length + x.p.length ≤ n := h.2.2.2 x (List.mem_of_getElem? hx)

set_option maxHeartbeats 4000000 in
theorem used_any (base : Nat) (who : Nat → Nat) (w : World) (T g : Nat) (d : DDk) (n : Nat) (h : DiskAt base who w T g d) (hd : d.fits n) (hn : n ≤ 10000000) :
    Calls Try.prog 33 #[.pointer (some ⟨g, 0, none⟩)] w fun e w' => e = .returned (.int .i64 (d.used : Nat)) ∧ w' = w := by
  obtain ⟨ga, cap, L, h1, h2, h3, h4, h5, h6, h7⟩ := h
  obtain ⟨hlt, _, _, c3, _⟩ := h1.cells
  have hll : d.as.length = L.length := by rw [h5, List.length_map]
  have h8 := hd.1
  rw [hll] at h8
  have HAT := Lib.hid (fun i (hi : i < L.length) => show ∃ A c m, w.cell? ⟨ga, i * 3, none⟩ = some (.slice A m c) ∧ usedL (d.as.take (i + 1)) = usedL (d.as.take i) + m ∧ usedL (d.as.take (i + 1)) ≤ 8 * n from by
    obtain ⟨x, hx⟩ : ∃ x, L[i]? = some x := ⟨_, List.getElem?_eq_getElem hi⟩
    have ha := h4.each i x hx
    obtain ⟨A, c, hv, _⟩ := row_slice ha.c
    have hc := (h4.cells hx).1
    rw [hv, Nat.mul_comm] at hc
    have h9 := usedL_snoc (ar_at h5 hx)
    rw [← (h6 x (List.mem_of_getElem? hx)).1] at h9
    exact ⟨A, c, _, hc, h9, usedL_take_le hd.2.2.2 hd.1⟩)
  have HU := Lib.hid (show usedL (d.as.take L.length) = d.used by rw [← hll, List.take_length]; rfl)
  have hgl := (row_blk h4.row rfl).2.1
  clear h1 h2 h3 h4 h5 h6 h7 hd hll
  go_enter Try.func33, Try.ntmps33
  go_wp2_with fail
  go_loopw [3, 12] (fun s y wr => ∃ (i : Nat), i ≤ L.length ∧ s = .int .i64 (usedL (d.as.take i) : Nat) ∧ y = .int .i64 i ∧ wr = w) (fun _ y _ => L.length - (intOf y).toNat)
  case atStart => exact ⟨0, Nat.zero_le _, rfl, rfl, by trivial⟩
  case round =>
    obtain ⟨i, hi, rfl, rfl, hw⟩ := hrel
    have hw := hw.symm
    subst hw
    by_cases k1 : i < L.length
    · obtain ⟨A, c, m, hc, hs, hb⟩ := HAT.out i k1
      have HS := Lib.hid hs
      have hsum : usedL (d.as.take i) + m ≤ 8 * n := by omega
      generalize usedL (d.as.take i) = U at *
      clear hs hb
      go_wp2_with fail
      refine (size_any A m c _).mono ?_
      rintro e w' ⟨rfl, hw⟩
      have hw := hw.symm
      subst hw
      go_wp2_with fail
      go_roundw
      case rel => exact ⟨i + 1, by omega, by rw [HS.out]; go_num, by go_num, by trivial⟩
      case measure => simp [intOf]; omega
    · obtain rfl : i = L.length := by omega
      rw [HU.out]
      go_wp2_with fail
      go_ret
      exact ⟨rfl, rfl⟩
end Go.Proofs.Ytojkifcclgecoaa.Dk
