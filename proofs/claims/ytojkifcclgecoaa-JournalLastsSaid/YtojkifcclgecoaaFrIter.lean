/-
  The iterator of frame.frames: as long as bytes go on with a frame, its bytes, and how many bytes the frame has.
-/
import Derived.Test.YtojkifcclgecoaaFrEnc
namespace Go.Proofs.Ytojkifcclgecoaa
open Go Go.RowKit Go.Shelf Go.Proofs
attribute [local go_sem] Oper.semAt_some

/-- Where a slice that is cut at l lies. -/
def subA (A : Option Addr) (c l : Nat) : Option Addr := if c = l then A else A.map fun a => ⟨a.block, a.off + l, none⟩
/-- The frames that b begins with, and where their bytes lie. -/
def frX : Nat → Option Addr → Nat → Bs → List BX
  | 0, _, _, _ => []
  | f + 1, A, c, b => match nextF b with
    | none => []
    | some x => ⟨subA A c 8, x.length, x⟩ :: frX f (subA (subA A c 8) (c - 8) x.length) (c - 8 - x.length) (b.drop (8 + x.length))
theorem frX_b : ∀ (f : Nat) (A : Option Addr) (c : Nat) (b : Bs), (frX f A c b).map BX.b = allF f b
  | 0, _, _, _ => rfl
  | f + 1, A, c, b => by
    unfold frX allF
    cases nextF b with
    | none => rfl
    | some x => exact congrArg (x :: ·) (frX_b f _ _ _)
def encF2 (x : BX) : Array Value := #[.slice x.A x.b.length x.c, .int .i64 ((8 + x.b.length : Nat) : Int)]
/-- The block that bytes lie in. -/
def InB (A : Option Addr) (k : Nat) : Prop := ∃ a, A = some a ∧ k = a.block
def KeepB (A : Option Addr) (b : Bs) (k : Nat) : Prop := 0 < b.length ∧ InB A k
theorem subA_in {A : Option Addr} {c l k : Nat} (h : InB (subA A c l) k) : InB A k := by
  unfold subA at h
  split at h
  · exact h
  · obtain ⟨a, e, rfl⟩ := h
    obtain ⟨a', rfl, rfl⟩ := Option.map_eq_some_iff.1 e
    exact ⟨a', rfl, rfl⟩
theorem bytes_sub {w : World} {g o c l : Nat} {b : Bs} (h : BytesAt w (some ⟨g, o, none⟩) b) (hl : l ≤ b.length) (hc : b.length ≤ c) : ∃ o', subA (some ⟨g, o, none⟩) c l = some ⟨g, o', none⟩ ∧ BytesAt w (some ⟨g, o', none⟩) (b.drop l) := by
  unfold subA
  by_cases e : c = l
  · rw [if_pos e]
    refine ⟨o, rfl, ?_⟩
    rw [List.drop_of_length_le (by omega)]
    exact BytesAt.nil _ _
  · rw [if_neg e]
    refine ⟨o + l, rfl, ?_⟩
    have := h.piece l (b.drop l).length
    rwa [List.take_length] at this
theorem BytesAt.front {w : World} {A : Option Addr} {b : Bs} (h : BytesAt w A b) (n : Nat) : BytesAt w A (b.take n) := fun hn => by
  have h0 : 0 < b.length := by rw [List.length_take] at hn; omega
  obtain ⟨g, o, rfl, _⟩ := h h0
  exact (h.piece 0 n) (by simpa using hn)
theorem BytesAt.keepsB {w w' : World} {A : Option Addr} {b : Bs} {K : Nat → Prop} (h : BytesAt w A b) (hk : KeepsB K w w') (hK : ∀ k, InB A k → K k) : BytesAt w' A b :=
  h.keep fun g _ e hg => hk.same g (hK g ⟨_, e, rfl⟩) hg

theorem frX_none {b : Bs} (h : nextF b = none) : ∀ (f : Nat) (A : Option Addr) (c : Nat), frX f A c b = []
  | 0, _, _ => rfl
  | f + 1, A, c => by unfold frX; rw [h]
theorem frX_some {b x : Bs} (h : nextF b = some x) (f : Nat) (A : Option Addr) (c : Nat) : frX (f + 1) A c b = ⟨subA A c 8, x.length, x⟩ :: frX f (subA (subA A c 8) (c - 8) x.length) (c - 8 - x.length) (b.drop (8 + x.length)) := by
  conv => lhs; unfold frX
  rw [h]
theorem drop_nil {α : Type} {l : List α} {k : Nat} (hk : k ≤ l.length) (h : l.drop k = []) : l.length = k := by
  have := congrArg List.length h
  rw [List.length_drop, List.length_nil] at this; omega
theorem fr_scope {n : Nat} {P : Program} {c : Code} {Q : Exit → Act → World → Prop} {a : Act} {w : World} (h : c.wpIn Fence.wide n P (Exit.noGoto Q) a w) : (Code.scope c).wpIn Fence.wide n P Q a w := wpIn_wide.2 (wp_scope_straight (wpIn_wide.1 h))

set_option maxRecDepth 100000 in
set_option maxHeartbeats 8000000 in
theorem frames1_in (n l bx : Nat) (A : Option Addr) (c : Nat) (b : Bs) (J Jx : Nat → World → Prop) (W : World)
    (hJ : AbidesTo NoB W.heap.size J)
    (hY : ∀ k x W1, J k W1 → (frX b.length A c b)[k]? = some x → YieldAt Fence.wide (n - 1) Try.prog l (encF2 x) W1 fun e W' =>
      (e = .returned (.bool true) ∧ J (k + 1) W' ∧ KeepsB (KeepB A b) W1 W') ∨ (e = .returned (.bool false) ∧ Jx (k + 1) W'))
    (b1 : Boxed W bx 29 (.slice A b.length c)) (hs : SlAt W A c b) (hl : b.length ≤ 100000) (h0 : J 0 W) :
    CallsIn Fence.wide n Try.prog 89 #[.func (.yield l) #[] #[], .pointer (some ⟨bx, 0, none⟩)] W fun e W' =>
      (∃ v, e = .returned v) ∧ (J (frX b.length A c b).length W' ∨ ∃ k, k ≤ (frX b.length A c b).length ∧ Jx k W') := by
  have hcm := hs.c63
  refine callsIn_of_wp Try.func89 rfl trivial ?_ rfl
  simp only [Try.ntmps89, List.size_toArray, List.length_cons, List.length_nil, Nat.reduceAdd, Nat.reduceSub, Array.replicate_succ, Array.replicate_zero, List.push_toArray, List.append_toArray, List.nil_append, List.cons_append]
  have c1 := b1.cell
  gi_wp2
  refine fr_scope ?_
  gi_wp2
  refine wpIn_label ?_
  gi_wp2
  clear c1
  gi_loopw [3] (fun v wr => ∃ (k cr : Nat) (Ar : Option Addr) (r : Bs), v = .slice Ar r.length cr ∧ Hid (BytesAt wr Ar r) ∧ Hid (∀ j, InB Ar j → InB A j) ∧ r.length ≤ cr ∧ cr ≤ 9223372036854775807 ∧ r.length ≤ 100000 ∧
      Hid (k ≤ (frX b.length A c b).length ∧ ∃ f, r.length ≤ f ∧ (frX b.length A c b).drop k = frX f Ar cr r) ∧ W.heap.size ≤ wr.heap.size ∧ J k wr) (fun v _ => match v with | .slice _ n _ => n | _ => 0)
  case atStart => exact ⟨0, c, A, b, rfl, hs.bytes, fun _ h => h, hs.cap, hcm, hl, ⟨Nat.zero_le _, b.length, Nat.le_refl _, rfl⟩, Nat.le_refl _, h0⟩
  case round =>
    clear b1 hs h0 hl hcm
    obtain ⟨k, cr, Ar, r, rfl, HB, HIN, hcap, hcm, hlr, HD, hsz, hj⟩ := hrel
    by_cases h8 : 8 ≤ r.length
    · obtain ⟨g, o, rfl, _⟩ := HB.out (by omega)
      have q0 : (8 : Int) ≤ (r.length : Int) := by omega
      have q1 : (4 : Int) ≤ (cr : Int) := by omega
      have q2 : (8 : Int) ≤ (cr : Int) := by omega
      have q3 : ¬ cr = 4 := by omega
      have q4 : ¬ cr = 0 := by omega
      have t4 : (r.take 4).length = 4 := by rw [List.length_take]; omega
      have t8 : ((r.drop 4).take 4).length = 4 := by rw [List.length_take, List.length_drop]; omega
      have hb4 : BytesAt wr (some ⟨g, o, none⟩) (r.take 4) := HB.out.front 4
      have hb8 : BytesAt wr (some ⟨g, o + 4, none⟩) ((r.drop 4).take 4) := HB.out.piece 4 4
      have hR : ∃ R, subA (some ⟨g, o, none⟩) cr 8 = R ∧ (if cr = 8 then (some ⟨g, o, none⟩ : Option Addr) else some ⟨g, o + 8, none⟩) = R := ⟨_, rfl, rfl⟩
      obtain ⟨R, hR1, hR2⟩ := hR
      obtain ⟨o', hRo, hbR⟩ := bytes_sub HB.out h8 hcap
      rw [hR1] at hRo
      subst hRo
      have HR1 := Lib.hid hR1
      obtain ⟨V, hV⟩ : ∃ V, valN (r.take 4) = V := ⟨_, rfl⟩
      have HG1 := Lib.hid (fun (w1 : World) (h : BytesAt w1 (some ⟨g, o, none⟩) (r.take 4)) => get_any (r.take 4) (some ⟨g, o, none⟩) 4 w1 ⟨h, by omega, by unfold maxLen; omega, fun e => by cases e⟩ (by omega) (by omega))
      rw [t4, hV] at HG1
      have HG2 := Lib.hid (fun (w1 : World) (h : BytesAt w1 (some ⟨g, o + 4, none⟩) ((r.drop 4).take 4)) => get_any ((r.drop 4).take 4) (some ⟨g, o + 4, none⟩) 4 w1 ⟨h, by omega, by unfold maxLen; omega, fun e => by cases e⟩ (by omega) (by omega))
      rw [t8] at HG2
      have H4 := Lib.hid hb4
      have H8 := Lib.hid hb8
      have HRB := Lib.hid hbR
      have HHJ := Lib.hid hj
      have HHJJ := Lib.hid hJ
      have HHY := Lib.hid hY
      have HVV := Lib.hid hV
      have HT4 := Lib.hid t4
      have HT8 := Lib.hid t8
      clear hb4 hb8 hR1 hbR hj hJ hY hV t4 t8
      have wl : IntKind.u64.wrap ((r.length - 8 : Nat) : Int) = ((r.length - 8 : Nat) : Int) := IntWalk.u64_in _ (by omega)
      gi_wp2
      gi_region
      all_goals (try gi_wp2)
      refine wide_call (HG1.out wr.drew (H4.out.below (Below.refl _ wr).drew)) ?_
      rintro e w1 ⟨rfl, hw1⟩
      subst hw1
      clear HG1
      by_cases hV : V ≤ 65536
      · have v1 : ((65536 : Int) < (V : Int)) = False := eq_false (by omega)
        by_cases hL : V ≤ r.length - 8
        · have v2 : (((r.length - 8 : Nat) : Int) < (V : Int)) = False := eq_false (by omega)
          have v3 : (V : Int) ≤ ((cr - 8 : Nat) : Int) := by omega
          have tb : ((r.drop 8).take V).length = V := by rw [List.length_take, List.length_drop]; omega
          have hbb : BytesAt wr (some ⟨g, o', none⟩) ((r.drop 8).take V) := HRB.out.front V
          have HSU := Lib.hid (sum2_at (w := wr.drew) (x := ⟨some ⟨g, o, none⟩, 4, r.take 4⟩) (y := ⟨some ⟨g, o', none⟩, cr - 8, (r.drop 8).take V⟩)
            ⟨H4.out.below (Below.refl _ wr).drew, by show (r.take 4).length ≤ 4; rw [HT4.out]; exact Nat.le_refl _, (show (4 : Nat) ≤ maxLen by unfold maxLen; omega), fun e => by cases e⟩
            ⟨hbb.below (Below.refl _ wr).drew, by show ((r.drop 8).take V).length ≤ cr - 8; rw [tb]; omega, (show cr - 8 ≤ maxLen by unfold maxLen; omega), fun e => by cases e⟩
            (by unfold reachBytes; show (r.take 4).length ≤ _; rw [HT4.out]; omega) (by unfold reachBytes; show ((r.drop 8).take V).length ≤ _; rw [tb]; omega))
          dsimp only at HSU
          rw [HT4.out, tb] at HSU
          have hlt := sum_lt32 [r.take 4, (r.drop 8).take V]
          have wsm : IntKind.u64.wrap (sumN [r.take 4, (r.drop 8).take V] : Int) = (sumN [r.take 4, (r.drop 8).take V] : Int) := IntWalk.u64_in _ (by omega)
          obtain ⟨SN, hSN⟩ : ∃ SN, sumN [r.take 4, (r.drop 8).take V] = SN := ⟨_, rfl⟩
          rw [hSN] at HSU wsm
          obtain ⟨SV, hSV⟩ : ∃ SV, valN ((r.drop 4).take 4) = SV := ⟨_, rfl⟩
          rw [hSV] at HG2
          have HSN := Lib.hid hSN
          have HSV := Lib.hid hSV
          have HTB := Lib.hid tb
          have HBB := Lib.hid hbb
          clear hlt hSN hSV tb hbb
          gi_wp2
          refine wide_call HSU.out ?_
          rintro e w2 ⟨rfl, hb2⟩
          clear HSU
          have hb2 : Below wr.heap.size wr w2 := ((Below.refl _ wr).drew).trans hb2
          gi_wp2
          refine wide_call (HG2.out w2 (H8.out.below hb2)) ?_
          rintro e w3 ⟨rfl, hw3⟩
          subst hw3
          clear HG2
          by_cases hS : SN = SV
          · have e1 : ((SN : Int) != (SV : Int)) = false := by rw [hS]; simp
            have e2 : ((SN : Int) = (SV : Int)) = True := eq_true (by rw [hS])
            have hn : nextF r = some ((r.drop 8).take V) := by
              unfold nextF
              rw [if_pos, HVV.out]
              exact ⟨h8, by rw [HVV.out]; exact hV, by rw [HVV.out]; exact hL, by rw [HVV.out, HSN.out, HSV.out]; exact hS⟩
            obtain ⟨o2, hO2, hb2r⟩ := bytes_sub (l := V) (c := cr - 8) HRB.out (by rw [List.length_drop]; omega) (by rw [List.length_drop]; omega)
            have hR4 : (if cr - 8 = V then (some ⟨g, o', none⟩ : Option Addr) else some ⟨g, o' + V, none⟩) = some ⟨g, o2, none⟩ := hO2
            rw [List.drop_drop] at hb2r
            obtain ⟨hk1, f, hf, hdr⟩ := HD.out
            obtain ⟨f, rfl⟩ : ∃ f', f = f' + 1 := ⟨f - 1, by omega⟩
            rw [frX_some hn, HR1.out, HTB.out, hO2] at hdr
            have hx : (frX b.length A c b)[k]? = some ⟨some ⟨g, o', none⟩, V, (r.drop 8).take V⟩ := by rw [← List.head?_drop, hdr]; rfl
            have hd2 : (frX b.length A c b).drop (k + 1) = frX f (some ⟨g, o2, none⟩) (cr - 8 - V) (r.drop (8 + V)) := by rw [← List.drop_drop, hdr]; rfl
            have hb0 : 0 < b.length := Nat.pos_of_ne_zero fun e => by rw [e] at hx; simp [frX] at hx
            have hk2 : k + 1 ≤ (frX b.length A c b).length := (List.getElem?_eq_some_iff.1 hx).1
            have hj3 := fr_abides HHJJ.out HHJ.out hb2
            obtain ⟨fn, tmps, assign, body, hy, hRd⟩ := HHY.out k _ w3 hj3 hx
            simp only [encF2, HTB.out, Int.natCast_add, Int.cast_ofNat_Int] at hy
            have HRD := Lib.hid hRd
            have HB2R := Lib.hid (hb2r.below hb2)
            have HD2 := Lib.hid hd2
            have HSZ := Lib.hid (Nat.le_trans hsz hb2.size)
            have HHB2 := Lib.hid hb2
            have w8 : IntKind.i64.wrap (8 + (V : Int)) = 8 + (V : Int) := IntWalk.i64_in _ (by omega)
            have wv : IntKind.i64.wrap (V : Int) = (V : Int) := IntWalk.i64_in _ (by omega)
            clear hdr hRd hb2r hd2 hx hn hj3 hO2 hb2
            have v4 : (V : Int) ≤ ((r.length - 8 : Nat) : Int) := by omega
            gi_wp2
            refine wide_round HRD.out ?_
            rintro e w4 (⟨rfl, hJ4, hk4⟩ | ⟨rfl, hJx4⟩)
            · have hb4 := HB2R.out.keepsB hk4 (fun j hj => ⟨hb0, HIN.out j (by obtain ⟨a, e, rfl⟩ := hj; cases e; exact ⟨_, rfl, rfl⟩)⟩)
              have hin4 : ∀ j, InB (some ⟨g, o2, none⟩) j → InB A j := fun j hj => HIN.out j (by obtain ⟨a, e, rfl⟩ := hj; cases e; exact ⟨_, rfl, rfl⟩)
              have hsz4 : W.heap.size ≤ w4.heap.size := Nat.le_trans HSZ.out hk4.size
              have HB4 := Lib.hid hb4
              have HIN4 := Lib.hid hin4
              have hl4 : (r.drop (8 + V)).length = r.length - 8 - V := by rw [List.length_drop]; omega
              have HL4 := Lib.hid hl4
              clear hk4 hb4 hin4 hl4
              gi_wp2
              refine ⟨⟨k + 1, cr - 8 - V, some ⟨g, o2, none⟩, r.drop (8 + V), by rw [HL4.out], HB4, HIN4, by rw [HL4.out]; omega, by omega, by rw [HL4.out]; omega, ⟨hk2, f, by rw [HL4.out]; omega, HD2.out⟩, hsz4, hJ4⟩, ?_⟩
              dsimp only
              omega
            · gi_wp2
              rw [Exit.noGoto_ret]
              refine bodyPost_ret (results_none rfl _ _ _) rfl ?_
              exact ⟨⟨_, rfl⟩, .inr ⟨k + 1, hk2, hJx4⟩⟩
          · have e1 : ((SN : Int) != (SV : Int)) = true := by simp; omega
            have e2 : ((SN : Int) = (SV : Int)) = False := eq_false (by omega)
            have hn : nextF r = none := by
              unfold nextF
              rw [if_neg]
              unfold isF
              rintro ⟨_, _, _, h⟩
              rw [HVV.out, HSN.out, HSV.out] at h
              exact hS h
            have hkl := drop_nil HD.out.1 (by obtain ⟨f, _, e⟩ := HD.out.2; rw [e]; exact frX_none hn f _ _)
            have HKL := Lib.hid hkl; clear hkl hn
            have hj2 := fr_abides HHJJ.out HHJ.out hb2
            gi_wp2
            rw [Exit.noGoto_ret]
            refine bodyPost_ret (results_none rfl _ _ _) rfl ?_
            exact ⟨⟨_, rfl⟩, .inl (by rw [HKL.out]; exact hj2)⟩
        · have v2 : ((r.length - 8 : Nat) : Int) < (V : Int) := by omega
          have hn : nextF r = none := by unfold nextF; rw [if_neg]; unfold isF; rintro ⟨_, _, h, _⟩; rw [HVV.out] at h; omega
          have hkl := drop_nil HD.out.1 (by obtain ⟨f, _, e⟩ := HD.out.2; rw [e]; exact frX_none hn f _ _)
          have HKL := Lib.hid hkl; clear hkl hn
          have hj2 := fr_abides HHJJ.out HHJ.out (Below.refl _ wr).drew
          gi_wp2
          rw [Exit.noGoto_ret]
          refine bodyPost_ret (results_none rfl _ _ _) rfl ?_
          exact ⟨⟨_, rfl⟩, .inl (by rw [HKL.out]; exact hj2)⟩
      · have v1 : (65536 : Int) < (V : Int) := by omega
        have hn : nextF r = none := by unfold nextF; rw [if_neg]; unfold isF; rintro ⟨_, h, _⟩; rw [HVV.out] at h; omega
        have hkl := drop_nil HD.out.1 (by obtain ⟨f, _, e⟩ := HD.out.2; rw [e]; exact frX_none hn f _ _)
        have HKL := Lib.hid hkl; clear hkl hn
        have hj2 := fr_abides HHJJ.out HHJ.out (Below.refl _ wr).drew
        gi_wp2
        rw [Exit.noGoto_ret]
        refine bodyPost_ret (results_none rfl _ _ _) rfl ?_
        exact ⟨⟨_, rfl⟩, .inl (by rw [HKL.out]; exact hj2)⟩
    · have q0 : ((8 : Int) ≤ (r.length : Int)) = False := eq_false (by omega)
      have hn := next_short (b := r) (by omega)
      have hkl := drop_nil HD.out.1 (by obtain ⟨f, _, e⟩ := HD.out.2; rw [e]; exact frX_none hn f _ _)
      have HKL := Lib.hid hkl; clear hkl hn
      gi_wp2
      rw [Exit.noGoto_normal]
      go_end0
      exact ⟨⟨_, rfl⟩, .inl (by rw [HKL.out]; exact hj)⟩

/-- The iterator's contract. -/
theorem frames_list (n bx : Nat) (A : Option Addr) (c : Nat) (b : Bs) (w : World) (b1 : Boxed w bx 29 (.slice A b.length c)) (hs : SlAt w A c b) (hl : b.length ≤ 100000) :
    SeqList Fence.wide n Try.prog 89 #[.pointer (some ⟨bx, 0, none⟩)] encF2 (KeepsB (KeepB A b)) NoB (frX b.length A c b) w :=
  fun l J Jx W hW hJ _ hY h0 => frames1_in n l bx A c b J Jx W hJ hY ((hW.block bx b1.lt).trans b1) (hs.below hW) hl h0

theorem frames_any (A : Option Addr) (n c : Nat) (w : World) :
    Calls Try.prog 86 #[.slice A n c] w fun e w' =>
      e = .returned (.func (.func 89) #[] #[.pointer (some ⟨w.heap.size, 0, none⟩)]) ∧ w' = w.alloc (.cells #[.slice A n c] 29) := by
  go_enter Try.func86, Try.ntmps86
  go_wp2
  go_ret
  exact ⟨rfl, rfl⟩
end Go.Proofs.Ytojkifcclgecoaa
