/-
  The walk of RuleBack: all ways.
-/
import Derived.Test.YtjhdobknhgjdbaaDoorRlBack1
import Derived.Test.YtjhdobknhgjdbaaDoorRlBack2
import Derived.Test.YtjhdobknhgjdbaaDoorRlBack3
namespace Go.Proofs.YtjhdobknhgjdbaaDoor
open Go Go.RowKit Go.Shelf Go.Proofs
attribute [local go_sem] Oper.semAt_some

set_option maxRecDepth 100000 in
set_option maxHeartbeats 16000000 in
theorem rback_any (L : List RX) (A : Option Addr) (c : Nat) (s : ByteArray) (w : World) (h : RulesAt w A c L) (ht : ∀ x ∈ L, x.Tiny) (hs : s.size ≤ 1000000000000000) (hm : MaxOk w) :
    Calls Tryd.prog 5 #[.slice A L.length c, .string s] w (RlB true w) := by
  have hL : L.length ≤ maxLen := Nat.le_trans h.cap h.capm
  unfold maxLen at hL
  have HK := Lib.hid (fun (W : World) (hb : Below w.heap.size w W) => rknown_any W (hm.below hb))
  by_cases h50 : 50 < L.length
  · have g1 : (50 : Int) < (L.length : Int) := by omega
    have HB := Lib.hid (Below.refl w.heap.size w)
    clear h ht hm
    go_enter Tryd.func5, Tryd.ntmps5
    go_wp2_with fail
    refine (HK.out _ HB.out).mono ?_
    rintro e y ⟨rfl, hb⟩
    go_wp2_with fail
    go_ret
    exact ⟨rfl, HB.out.trans (hb.mono HB.out.size)⟩
  · have g1 : ¬ (50 : Int) < (L.length : Int) := by omega
    have HL := Lib.hid (rlong_any L A c w h (by omega) ht)
    by_cases h25 : 2500 < longU (rusX L)
    · obtain ⟨q, hq⟩ : ∃ q, longU (rusX L) = q := ⟨_, rfl⟩
      rw [hq] at HL h25
      have g2 : (2500 : Int) < (q : Int) := by omega
      clear h ht hm hq
      go_enter Tryd.func5, Tryd.ntmps5
      go_wp2_with fail
      refine HL.out.mono ?_
      rintro e w1 ⟨rfl, hb⟩
      have HB := Lib.hid hb
      clear hb
      go_wp2_with fail
      refine (HK.out _ HB.out).mono ?_
      rintro e y ⟨rfl, hb⟩
      go_wp2_with fail
      go_ret
      exact ⟨rfl, HB.out.trans (hb.mono HB.out.size)⟩
    · by_cases h15 : 1500 < s.size
      · obtain ⟨q, hq⟩ : ∃ q, longU (rusX L) = q := ⟨_, rfl⟩
        rw [hq] at HL h25
        have g2 : ¬ (2500 : Int) < (q : Int) := by omega
        have g3 : (1500 : Int) < (s.size : Int) := by omega
        clear h ht hm hq
        go_enter Tryd.func5, Tryd.ntmps5
        go_wp2_with fail
        refine HL.out.mono ?_
        rintro e w1 ⟨rfl, hb⟩
        have HB := Lib.hid hb
        clear hb
        go_wp2_with fail
        refine (HK.out _ HB.out).mono ?_
        rintro e y ⟨rfl, hb⟩
        go_wp2_with fail
        go_ret
        exact ⟨rfl, HB.out.trans (hb.mono HB.out.size)⟩
      · by_cases hpe : (printU (rusX L)).1 = 0
        · by_cases h16 : (printU (rusX L)).2.length ≤ 16384
          · by_cases h17 : (printU (rusX L)).2.length + 2 ≤ 16384
            · exact rback_ok L A c s w h ht (by omega) (by omega) (by omega) hm hpe h16 h17
            · exact rback_edge L A c s w h ht (by omega) (by omega) (by omega) hm hpe h16 h17
          · exact rback_far L A c s w h ht (by omega) (by omega) (by omega) hm hpe h16
        · exact rback_bad L A c s w h ht (by omega) (by omega) (by omega) hm hpe
end Go.Proofs.YtjhdobknhgjdbaaDoor
