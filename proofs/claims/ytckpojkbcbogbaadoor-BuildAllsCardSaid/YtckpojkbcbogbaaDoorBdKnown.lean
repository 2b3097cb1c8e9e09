/-
  What the chapter's example fixes (build).
-/
import Derived.Test.YtckpojkbcbogbaaDoorBdParse
import Derived.Test.YtckpojkbcbogbaaDoorBdSame
import Derived.BigQuiet
namespace Go.Proofs.YtckpojkbcbogbaaDoor
open Go Go.RowKit Go.Shelf Go.Proofs
attribute [local go_sem] Oper.semAt_some

def BdB (b : Bool) (w : World) (e : Ending) (w' : World) : Prop := e = .returned (.bool b) ∧ Below w.heap.size w w'
theorem BdK.lines {dir : Bs} : ∀ (ws : List (List Bs)) (k : Nat) (l l' : List Tg), BdK k l → linesT dir ws (.ok l) = .ok l' → BdK (k + ws.length) l'
  | [], k, l, l', h, e => by cases e; exact h
  | x :: ws, k, l, l', h, e => by
    have e1 : linesT dir (x :: ws) (.ok l) = linesT dir ws (lineT dir l x) := rfl
    rw [e1] at e
    cases h2 : lineT dir l x with
    | error n => rw [h2, linesT_err] at e; cases e
    | ok m =>
      rw [h2] at e
      have := BdK.lines ws (k + 1) m l' (h.line h2) e
      rw [List.length_cons]
      exact this.mono (by omega)
theorem parseB_small {dir s : Bs} : ∀ x ∈ (parseB dir s).2, x.s.length ≤ 20000 ∧ x.d.length ≤ 20000 := by
  intro x hx
  unfold parseB at hx
  split at hx
  · cases hx
  · split at hx
    · cases hx
    · rename_i h2
      split at hx
      · cases hx
      · rename_i l hl
        have h3 : BdK (0 + ((splitL 10 s).map wordsL).length) l := BdK.lines _ 0 [] l ⟨Nat.le_refl _, fun x hx => by cases hx⟩ hl
        have h4 := splitL_length 10 s
        rw [List.length_map] at h3
        have := h3.2 x hx
        omega
theorem tgs_small {l : List TX} {dir s : Bs} (h : tgsX l = (parseB dir s).2) : ∀ x ∈ l, x.s.length ≤ 9000000000000 ∧ x.d.length ≤ 9000000000000 := fun x hx => by
  have := parseB_small (dir := dir) (s := s) x.tg (by rw [← h]; exact List.mem_map.2 ⟨x, hx, rfl⟩)
  have e1 : x.tg.s = x.s := rfl
  have e2 : x.tg.d = x.d := rfl
  rw [e1, e2] at this
  omega
def knD : ByteArray := ⟨#[100]⟩
def knS : ByteArray := ⟨#[116, 97, 114, 103, 101, 116, 32, 120, 10, 32, 115, 114, 99, 32, 97, 46, 103, 111, 10, 32, 100, 101, 112, 32, 58, 121, 32, 35, 32, 122]⟩
def knT : Tg := ⟨[100, 58, 120], [[100, 47, 97, 46, 103, 111]], [[100, 58, 121]]⟩
theorem kn_parse : parseB knD.data.toList knS.data.toList = (0, [knT]) := by decide +kernel
theorem kn_bad : parseB (ByteArray.mk #[]).data.toList (ByteArray.mk #[115, 114, 99, 32, 97]).data.toList = (11, []) := by decide +kernel
theorem kn_at : placeT [knT] (ByteArray.mk #[100, 58, 120]).data.toList = 0 := by decide +kernel
theorem kn_not : placeT [knT] (ByteArray.mk #[100, 58, 121]).data.toList = -1 := by decide +kernel
theorem strs_one {W : World} {N : Nat} {s : ByteArray} {t : TypeId} (h : W.heap[N]? = some (.cells #[.string s] t (0, 0))) : StrsAt W (some ⟨N, 0, none⟩) [s.data.toList] := fun _ => ⟨N, 0, rfl, fun i p hp => by
  match i, hp with
  | 0, hp =>
    cases hp
    rw [data_mkB]
    exact cell_of_row W N 0 _ _ _ h
  | i + 1, hp => simp at hp⟩
def knX (a b : Nat) : TX := ⟨⟨#[100, 58, 120]⟩, some ⟨a, 0, none⟩, 1, [[100, 47, 97, 46, 103, 111]], some ⟨b, 0, none⟩, 1, [[100, 58, 121]]⟩
theorem kn_tgs {W : World} {a b g : Nat} (h1 : W.heap[a]? = some (.cells #[.string ⟨#[100, 47, 97, 46, 103, 111]⟩] 9 (0, 0))) (h2 : W.heap[b]? = some (.cells #[.string ⟨#[100, 58, 121]⟩] 9 (0, 0)))
    (h3 : W.heap[g]? = some (.cells #[.string ⟨#[100, 58, 120]⟩, .slice (some ⟨a, 0, none⟩) 1 1, .slice (some ⟨b, 0, none⟩) 1 1] 37 (0, 0))) : TgsAt W (some ⟨g, 0, none⟩) 1 [knX a b] := by
  refine ⟨Nat.le_refl _, by unfold maxLen; omega, fun _ => ⟨g, 0, rfl, fun i x hx => ?_⟩, fun x hx => ?_⟩
  · match i, hx with
    | 0, hx =>
      cases hx
      exact ⟨cell_of_row W g 0 _ _ _ h3, cell_of_row W g 1 _ _ _ h3, cell_of_row W g 2 _ _ _ h3⟩
    | i + 1, hx => simp at hx
  · obtain rfl : x = knX a b := by simpa using hx
    exact ⟨strs_one h1, Nat.le_refl _, by show 1 ≤ maxLen; unfold maxLen; omega, strs_one h2, Nat.le_refl _, by show 1 ≤ maxLen; unfold maxLen; omega⟩

set_option maxRecDepth 100000 in
set_option maxHeartbeats 16000000 in
theorem bknown_any (w : World) (hm : MaxOk w) : Calls Tryd.prog 10 #[] w (BdB true w) := by
  have H1 := bparse_any knD knS w (by decide) hm
  rw [kn_parse] at H1
  have H1 := Lib.hid H1
  have H2 := Lib.hid (fun (W : World) (hb : Below w.heap.size w W) => by
    have := bparse_any (ByteArray.mk #[]) (ByteArray.mk #[115, 114, 99, 32, 97]) W (by decide) (hm.below hb)
    rw [kn_bad] at this
    exact this)
  clear hm
  go_enter Tryd.func10, Tryd.ntmps10
  go_wp2_with fail
  refine H1.out.mono ?_
  rintro e w1 ⟨A, c, l, rfl, hat, hl, hb⟩
  obtain ⟨x, rfl⟩ : ∃ x, l = [x] := by
    have : l.length = 1 := by rw [← tgsX_length, hl]; rfl
    exact List.length_eq_one_iff.1 this
  have HB1 := Lib.hid hb
  have HAT1 := Lib.hid hat
  have HL := Lib.hid hl
  clear hb hat hl H1
  go_wp2_with fail
  refine (H2.out w1 HB1.out).mono ?_
  rintro e w2 ⟨A2, c2, l2, rfl, hat2, hl2, hb2⟩
  have HB2 := Lib.hid (HB1.out.trans (hb2.mono HB1.out.size))
  have HAT2 := Lib.hid (HAT1.out.below hb2)
  clear hat2 hl2 hb2 H2 HAT1
  obtain ⟨a, ha⟩ : ∃ a, w2.heap.size = a := ⟨_, rfl⟩
  obtain ⟨W3, hW3⟩ : ∃ W, w2.alloc (.cells #[.string ⟨#[100, 47, 97, 46, 103, 111]⟩] 9) = W := ⟨_, rfl⟩
  obtain ⟨W4, hW4⟩ : ∃ W, W3.alloc (.cells #[.string ⟨#[100, 58, 121]⟩] 9) = W := ⟨_, rfl⟩
  obtain ⟨W5, hW5⟩ : ∃ W, W4.alloc (.cells #[.string ⟨#[100, 58, 120]⟩, .slice (some ⟨a, 0, none⟩) 1 1, .slice (some ⟨a + 1, 0, none⟩) 1 1] 37) = W := ⟨_, rfl⟩
  have z3 : W3.heap.size = a + 1 := by rw [← hW3, World.size_alloc, ha]
  have z4 : W4.heap.size = a + 2 := by rw [← hW4, World.size_alloc, z3]
  have b3 : Below w2.heap.size w2 W3 := by rw [← hW3]; exact (Below.refl _ _).alloc (Nat.le_refl _) _
  have b4 : Below W3.heap.size W3 W4 := by rw [← hW4]; exact (Below.refl _ _).alloc (Nat.le_refl _) _
  have b5 : Below W4.heap.size W4 W5 := by rw [← hW5]; exact (Below.refl _ _).alloc (Nat.le_refl _) _
  have n3 : W5.heap[a]? = some (.cells #[.string ⟨#[100, 47, 97, 46, 103, 111]⟩] 9 (0, 0)) := (b5.block a (by omega)).trans ((b4.block a (by omega)).trans (by rw [← hW3, ← ha]; exact heap_alloc_new _ _))
  have n4 : W5.heap[a + 1]? = some (.cells #[.string ⟨#[100, 58, 121]⟩] 9 (0, 0)) := (b5.block _ (by omega)).trans (by rw [← hW4, ← z3]; exact heap_alloc_new _ _)
  have n5 : W5.heap[a + 2]? = some (.cells #[.string ⟨#[100, 58, 120]⟩, .slice (some ⟨a, 0, none⟩) 1 1, .slice (some ⟨a + 1, 0, none⟩) 1 1] 37 (0, 0)) := by rw [← hW5, ← z4]; exact heap_alloc_new _ _
  have b25 : Below w2.heap.size w2 W5 := b3.trans ((b4.mono (by omega)).trans (b5.mono (by omega)))
  have HB5 := Lib.hid (HB2.out.trans (b25.mono HB2.out.size))
  have HK := Lib.hid (kn_tgs n3 n4 n5)
  have HAT5 := Lib.hid (HAT2.out.below b25)
  have HS := brefsame_any A (some ⟨a + 2, 0, none⟩) c 1 [x] [knX a (a + 1)] W5 HAT5.out HK.out (fun y hy => by
      have ey : y = x := by simpa using hy
      subst ey
      have := HL.out
      have e : y.tg = knT := by simpa [tgsX] using this
      have e1 : y.s = knT.s := by rw [← e]; rfl
      have e2 : y.d = knT.d := by rw [← e]; rfl
      rw [e1, e2]; decide) (fun y hy => by
      obtain rfl : y = knX a (a + 1) := by simpa using hy
      exact ⟨by show 1 ≤ _; omega, by show 1 ≤ _; omega⟩)
  rw [show decide (tgsX [x] = tgsX [knX a (a + 1)]) = true from by rw [HL.out]; rfl] at HS
  have HS := Lib.hid HS
  have HP1 := Lib.hid (fun (W : World) (h : TgsAt W A c [x]) => by
    have := bplace_any [x] A c (ByteArray.mk #[100, 58, 120]) W h
    rw [HL.out, kn_at] at this
    exact this)
  have HP2 := Lib.hid (fun (W : World) (h : TgsAt W A c [x]) => by
    have := bplace_any [x] A c (ByteArray.mk #[100, 58, 121]) W h
    rw [HL.out, kn_not] at this
    exact this)
  have HW3 := Lib.hid hW3
  have HW4 := Lib.hid hW4
  have HW5 := Lib.hid hW5
  have HA := Lib.hid ha
  have Z3 := Lib.hid z3
  have Z4 := Lib.hid z4
  clear hW3 hW4 hW5 ha z3 z4 b3 b4 b5 n3 n4 n5 b25
  go_wp2_with fail
  rw [HA.out, HW3.out, HW4.out, HW5.out]
  refine HS.out.mono ?_
  rintro e w6 ⟨rfl, hb6⟩
  have HB6 := Lib.hid (HB5.out.trans (hb6.mono HB5.out.size))
  have HAT6 := Lib.hid (HAT5.out.below hb6)
  clear hb6 HS
  go_wp2_with fail
  refine (HP1.out w6 HAT6.out).mono ?_
  rintro e w7 ⟨rfl, hb7⟩
  have HB7 := Lib.hid (HB6.out.trans (hb7.mono HB6.out.size))
  have HAT7 := Lib.hid (HAT6.out.below hb7)
  clear hb7
  go_wp2_with fail
  refine (HP2.out w7 HAT7.out).mono ?_
  rintro e w8 ⟨rfl, hb8⟩
  have HB8 := Lib.hid (HB7.out.trans (hb8.mono HB7.out.size))
  clear hb8
  go_wp2_with fail
  go_ret
  exact ⟨rfl, HB8.out⟩
end Go.Proofs.YtckpojkbcbogbaaDoor
