/-
  The law TreeChains, walked.
-/
import Derived.Test.YtedcaodbcognjaaDoorTRows
namespace Go.Proofs.YtedcaodbcognjaaDoor
open Go Go.RowKit Go.Shelf Go.Proofs

set_option maxRecDepth 100000 in
set_option maxHeartbeats 8000000 in
theorem chains_any (a b c : List FX) (A B C : Option Addr) (ca cb cc : Nat) (w : World) (ha : TreeAt w A ca a) (hb : TreeAt w B cb b) (hc : TreeAt w C cc c) (za : BigX a) (zb : BigX b) (zc : BigX c) (hm : MaxOk w) :
    Calls Tryd.prog 8 #[.slice A a.length ca, .slice B b.length cb, .slice C c.length cc] w fun e w' => e = .returned (.bool true) ∧ Below w.heap.size w w' := by
  go_enter Tryd.func8, Tryd.ntmps8
  go_wp2_with fail
  refine (lawsmall_any a A ca _ (ha.below (Below.refl _ _)) za).mono ?_
  rintro e w1 ⟨rfl, hq1⟩
  have hb1 := hq1
  clear hq1
  cases sa : smallL a with
  | false =>
    clear sa
    go_wp2_with fail
    refine (lawknown_any _ (hm.below hb1)).mono ?_
    rintro e wz ⟨rfl, hz⟩
    have HZ := Lib.hid (hb1.trans (hz.mono hb1.size)); clear hz
    go_wp2_with fail
    go_ret
    exact ⟨rfl, HZ.out⟩
  | true =>
    have ta := smallL_tiny sa; clear sa
    go_wp2_with fail
    refine (lawsmall_any b B cb _ (hb.below hb1) zb).mono ?_
    rintro e w2 ⟨rfl, hq2⟩
    have hb2 := hb1.trans (hq2.mono hb1.size)
    clear hq2
    cases sb : smallL b with
    | false =>
      clear sb
      go_wp2_with fail
      refine (lawknown_any _ (hm.below hb2)).mono ?_
      rintro e wz ⟨rfl, hz⟩
      have HZ := Lib.hid (hb2.trans (hz.mono hb2.size)); clear hz
      go_wp2_with fail
      go_ret
      exact ⟨rfl, HZ.out⟩
    | true =>
      have tb := smallL_tiny sb; clear sb
      go_wp2_with fail
      refine (lawsmall_any c C cc _ (hc.below hb2) zc).mono ?_
      rintro e w3 ⟨rfl, hq3⟩
      have hb3 := hb2.trans (hq3.mono hb2.size)
      clear hq3
      cases sc : smallL c with
      | false =>
        clear sc
        go_wp2_with fail
        refine (lawknown_any _ (hm.below hb3)).mono ?_
        rintro e wz ⟨rfl, hz⟩
        have HZ := Lib.hid (hb3.trans (hz.mono hb3.size)); clear hz
        go_wp2_with fail
        go_ret
        exact ⟨rfl, HZ.out⟩
      | true =>
        have tc := smallL_tiny sc; clear sc
        go_wp2_with fail
        refine (tright_any a A ca _ (ha.below hb3) ta.paths (hm.below hb3)).mono ?_
        rintro e w4 ⟨rfl, hq4⟩
        have hb4 := hb3.trans (hq4.mono hb3.size)
        clear hq4
        cases ra : rightT (flsX a) with
        | false =>
          clear ra
          go_wp2_with fail
          refine (lawknown_any _ (hm.below hb4)).mono ?_
          rintro e wz ⟨rfl, hz⟩
          have HZ := Lib.hid (hb4.trans (hz.mono hb4.size)); clear hz
          go_wp2_with fail
          go_ret
          exact ⟨rfl, HZ.out⟩
        | true =>
          go_wp2_with fail
          refine (tright_any b B cb _ (hb.below hb4) tb.paths (hm.below hb4)).mono ?_
          rintro e w5 ⟨rfl, hq5⟩
          have hb5 := hb4.trans (hq5.mono hb4.size)
          clear hq5
          cases rb : rightT (flsX b) with
          | false =>
            clear rb
            go_wp2_with fail
            refine (lawknown_any _ (hm.below hb5)).mono ?_
            rintro e wz ⟨rfl, hz⟩
            have HZ := Lib.hid (hb5.trans (hz.mono hb5.size)); clear hz
            go_wp2_with fail
            go_ret
            exact ⟨rfl, HZ.out⟩
          | true =>
            go_wp2_with fail
            refine (tright_any c C cc _ (hc.below hb5) tc.paths (hm.below hb5)).mono ?_
            rintro e w6 ⟨rfl, hq6⟩
            have hb6 := hb5.trans (hq6.mono hb5.size)
            clear hq6
            cases rc : rightT (flsX c) with
            | false =>
              clear rc
              go_wp2_with fail
              refine (lawknown_any _ (hm.below hb6)).mono ?_
              rintro e wz ⟨rfl, hz⟩
              have HZ := Lib.hid (hb6.trans (hz.mono hb6.size)); clear hz
              go_wp2_with fail
              go_ret
              exact ⟨rfl, HZ.out⟩
            | true =>
              go_wp2_with fail
              refine (diff_any a b A B ca cb _ (ha.below hb6) (hb.below hb6) ta.paths tb.paths (hm.below hb6)).mono ?_
              rintro e w7 ⟨v1, l1, rfl, hd1, hl1, hq7⟩
              have hb7 := hb6.trans (hq7.mono hb6.size)
              have hl1 : l1.map DX.dl = diffT (flsX a) (flsX b) := by rw [hl1]; unfold diffB; rw [ra, rb]; rfl
              obtain ⟨A1, c1, rfl, hD1⟩ := hd1.dels
              go_wp2_with fail
              refine (diff_any b c B C cb cc _ (hb.below hb7) (hc.below hb7) tb.paths tc.paths (hm.below hb7)).mono ?_
              rintro e w8 ⟨v2, l2, rfl, hd2, hl2, hq8⟩
              have hb8 := hb7.trans (hq8.mono hb7.size)
              have hl2 : l2.map DX.dl = diffT (flsX b) (flsX c) := by rw [hl2]; unfold diffB; rw [rb, rc]; rfl
              obtain ⟨A2, c2, rfl, hD2⟩ := hd2.dels
              have hd1 := hd1.below hq8
              have hD1 := hD1.below hq8
              obtain ⟨n1, m1⟩ := diff_small ta tb hl1
              obtain ⟨n2, m2⟩ := diff_small tb tc hl2
              have hbo : ∀ (W : World), Below w8.heap.size w8 W → ∀ x ∈ [] ++ l1, BytesAt W x.A x.b := fun W hW x hx => (hD1.bytes x (by simpa using hx)).below hW
              have hsd : SmallD (([] ++ l1) ++ l2) := ⟨by simp only [List.nil_append, List.length_append]; omega, fun x hx => by
                simp only [List.nil_append, List.mem_append] at hx
                rcases hx with hx | hx
                · have := m1 x hx; omega
                · have := m2 x hx; omega⟩
              have hap : applyT (flsX a) ((([] ++ l1) ++ l2).map DX.dl) = .ok (flsX c) := by rw [List.nil_append, List.map_append, hl1, hl2]; exact apply_chain ra rb rc
              go_wp2_with (at_builtin; first | (refine wpList_append_dels rfl _ _ rfl w8.heap.size _ (.slice none 0 0) _ [] l1 rfl (World.ownsRow_nil _ _ _ _) rfl hd1 (by simp only [List.length_nil]; omega) (Nat.le_refl _) ?_; intro v9 w9 hr9 hg9; have hb9 : Below w8.heap.size w8 w9 := (Below.refl _ _).grown hg9 (Nat.le_refl _) (by intro k hk; cases hk); have hd2 := hd2.below hb9; obtain ⟨A9, c9, rfl, hD9⟩ := hr9.dels (hbo w9 hb9)) | (refine wpList_append_dels rfl _ _ rfl w8.heap.size _ (.slice A9 ([] ++ l1).length c9) _ ([] ++ l1) l2 rfl hr9 rfl hd2 (by simp only [List.nil_append]; omega) hb9.size ?_; intro v10 w10 hr10 hg10; have hb10 : Below w8.heap.size w8 w10 := hb9.grown hg10 hb9.size (by intro k hk; exact (rowT_ge hr9 hk).1); obtain ⟨A10, c10, rfl, hD10⟩ := hr10.dels (fun x hx => (List.mem_append.1 hx).elim (hbo w10 hb10 x) (fun h => (hD2.bytes x h).below hb10))))
              have hbA := hb8.trans (hb10.mono hb8.size)
              have HC := tapply_any a _ A A10 ca c10 w10 (ha.below hbA) ta.small (by have := ta.len; omega) hD10 hsd (hm.below hbA)
              have hlen : (([] ++ l1) ++ l2).length = l1.length + l2.length := by simp
              rw [hap, hlen] at HC
              refine HC.mono ?_
              rintro e w11 ⟨v11, t11, rfl, h11, f11, hq11⟩
              obtain ⟨A11, c11, rfl⟩ := h11.own.slice
              have hb11 := hbA.trans (hq11.mono hbA.size)
              have hD1 := (hD1.below hb10).below hq11
              have hD2 := (hD2.below hb10).below hq11
              clear HC hD9 hD10 hr9 hr10 hg9 hg10 hd1 hd2
              go_wp2_with fail
              have hap1 : applyT (flsX a) (l1.map DX.dl) = .ok (flsX b) := by rw [hl1]; exact apply_diff ra rb
              have HC1 := tapply_any a l1 A A1 ca c1 w11 (ha.below hb11) ta.small (by have := ta.len; omega) hD1 ⟨by omega, fun x hx => by have := m1 x hx; omega⟩ (hm.below hb11)
              rw [hap1] at HC1
              refine HC1.mono ?_
              rintro e w12 ⟨v12, t12, rfl, h12, f12, hq12⟩
              obtain ⟨A12, c12, rfl⟩ := h12.own.slice
              have hb12 := hb11.trans (hq12.mono hb11.size)
              have hD2 := hD2.below hq12
              have h11 := h11.below hq12
              have t12s := TinyX.of_fls f12 tb
              clear HC1
              go_wp2_with fail
              have hap2 : applyT (flsX t12) (l2.map DX.dl) = .ok (flsX c) := by rw [hl2, f12]; exact apply_diff rb rc
              have HC2 := tapply_any t12 l2 A12 A2 c12 c2 w12 h12.tree.2 t12s.small (by have := t12s.len; omega) hD2 ⟨by omega, fun x hx => by have := m2 x hx; omega⟩ (hm.below hb12)
              rw [hap2] at HC2
              refine HC2.mono ?_
              rintro e w13 ⟨v13, t13, rfl, h13, f13, hq13⟩
              obtain ⟨A13, c13, rfl⟩ := h13.own.slice
              have hb13 := hb12.trans (hq13.mono hb12.size)
              have h11 := h11.below hq13
              have t11s := TinyX.of_fls f11 tc
              have t13s := TinyX.of_fls f13 tc
              clear HC2
              go_wp2_with fail
              have HS1 := same_any t11 c A11 C c11 cc w13 (by have := t11s.len; omega) (by have := tc.len; omega) h11.tree.2 (hc.below hb13)
              rw [decide_eq_true f11] at HS1
              refine HS1.mono ?_
              rintro e w14 ⟨rfl, hq14⟩
              have hb14 := hb13.trans (hq14.mono hb13.size)
              have h13 := h13.below hq14
              clear HS1
              go_wp2_with fail
              have HS2 := same_any t13 c A13 C c13 cc w14 (by have := t13s.len; omega) (by have := tc.len; omega) h13.tree.2 (hc.below hb14)
              rw [decide_eq_true f13] at HS2
              refine HS2.mono ?_
              rintro e w15 ⟨rfl, hq15⟩
              have hb15 := hb14.trans (hq15.mono hb14.size)
              clear HS2
              go_wp2_with fail
              refine (lawknown_any _ (hm.below hb15)).mono ?_
              rintro e wz ⟨rfl, hz⟩
              have HZ := Lib.hid (hb15.trans (hz.mono hb15.size)); clear hz
              go_wp2_with fail
              go_ret
              exact ⟨rfl, HZ.out⟩
end Go.Proofs.YtedcaodbcognjaaDoor
