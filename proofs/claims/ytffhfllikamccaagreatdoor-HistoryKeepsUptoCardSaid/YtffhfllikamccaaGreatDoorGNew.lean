/-
  The program's New of layer 3 (history).
-/
import Derived.Test.YtffhfllikamccaaGreatDoorGHist
import Derived.Test.YtffhfllikamccaaGreatDoorTRightW
namespace Go.Proofs.YtffhfllikamccaaGreatDoor
open Go Go.RowKit Go.Shelf Go.Proofs Go.ChangeMaps Go.Maps Go.WideMaps

theorem diffT_nil : ∀ b : List Fl, diffT [] b = b.map fun y => ⟨1, y.1, y.2⟩
  | [] => by simp [diffT]
  | y :: b => by simp [diffT, diffT_nil b]
/-- What a history's first records are made of. -/
theorem diffB_first {t : List FX} {l : List DX} (hr : rightT (flsX t) = true) (h : l.map DX.dl = diffB [] t) : SmallD l ∧ l.length ≤ 1000 := by
  have h0 : rightT (flsX []) = true := by rfl
  unfold diffB at h
  rw [h0, hr] at h
  have h : l.map DX.dl = (flsX t).map fun y => ⟨1, y.1, y.2⟩ := h.trans (diffT_nil (flsX t))
  have hl : l.length = t.length := by
    have := congrArg List.length h
    simpa [flsX] using this
  have h1 := right_len hr
  rw [flsX_length] at h1
  refine ⟨⟨by omega, fun x hx => ?_⟩, by omega⟩
  have hm : x.dl ∈ (flsX t).map fun y => (⟨1, y.1, y.2⟩ : Dl) := by rw [← h]; exact List.mem_map_of_mem hx
  obtain ⟨y, hy, e⟩ := List.mem_map.1 hm
  have h2 := right_ok hr y hy
  have e1 : y.1 = x.p.data.toList := congrArg Dl.p e
  have e2 : y.2 = x.b := congrArg Dl.b e
  have h3 : y.1.length ≤ 100 := by
    have h4 := h2.1
    unfold rightB partsB at h4
    simp only [Bool.and_eq_true, decide_eq_true_eq] at h4
    exact h4.1
  have e3 : x.p.data.toList.length = x.p.size := by rw [Array.length_toList]; rfl
  have h5 := h2.2
  rw [e1] at h3
  rw [e2] at h5
  omega
theorem bareX_bare {l : List FX} : ∀ x ∈ bareX l, x.A = none ∧ x.b = [] := fun x hx => by
  obtain ⟨y, _, rfl⟩ := List.mem_map.1 hx
  exact ⟨rfl, rfl⟩

def NewPost (t : List FX) (w : World) (e : Ending) (w' : World) : Prop :=
  if rightT (flsX t) then ∃ hb nv cv mb k D G l, e = .returned (.tuple #[.pointer (some ⟨hb, 0, none⟩), .int .i64 0]) ∧ HistAt w.heap.size w' hb 0 (bareX t) (fun _ => 0) nv cv mb k D [(G, l)] ∧ l.map DX.dl = diffB [] t ∧ Below w.heap.size w w'
  else e = .returned (.tuple #[.pointer none, .int .i64 2]) ∧ Below w.heap.size w w'

set_option maxRecDepth 100000 in
set_option maxHeartbeats 8000000 in
theorem hnew_any (t : List FX) (A : Option Addr) (c : Nat) (w : World) (h : TreeAt w A c t) (hs : ∀ x ∈ t, x.p.size ≤ 1000000) (hm : MaxOk w) :
    Calls Tryz.prog 7 #[.slice A t.length c] w (NewPost t w) := by
  have HR := Lib.hid (tright_any t A c w h hs hm)
  have HT := Lib.hid h
  have HM := Lib.hid hm
  cases hr : rightT (flsX t) with
  | false =>
    rw [hr] at HR
    have HR2 := Lib.hid hr
    clear h hm
    go_enter Tryz.func7, Tryz.ntmps7
    go_wp2_with fail
    refine HR.out.mono ?_
    rintro e w1 ⟨rfl, hb1⟩
    go_wp2_with fail
    go_ret2
    unfold NewPost
    rw [if_neg (by rw [HR2.out]; decide)]
    exact ⟨rfl, hb1⟩
  | true =>
    rw [hr] at HR
    have HR2 := Lib.hid hr
    have hlen := right_len hr
    rw [flsX_length] at hlen
    clear h hm
    go_enter Tryz.func7, Tryz.ntmps7
    go_wp2_with fail
    refine HR.out.mono ?_
    rintro e w1 ⟨rfl, hb1⟩
    go_wp2_with fail
    refine (hbare_any t A c w1 (HT.out.below hb1) (by omega)).mono ?_
    rintro e w2 ⟨nv, rfl, hnm, hb2⟩
    have hb12 := hb1.trans (hb2.mono hb1.size)
    obtain ⟨An, cn, rfl⟩ := hnm.slice
    have HNM := Lib.hid hnm
    have HB12 := Lib.hid hb12
    have HB1 := Lib.hid hb1.size
    clear hnm hb12 hb1 hb2
    go_wp2_with fail
    obtain ⟨W1, hW1⟩ : ∃ W, w2.alloc (.cells #[.slice An (bareX t).length cn, .slice none 0 0, .map none] 74) = W := ⟨_, rfl⟩
    have g1 := heap_alloc_new w2 (.cells #[.slice An (bareX t).length cn, .slice none 0 0, .map none] 74)
    have b1 := (Below.refl w2.heap.size w2).alloc (Nat.le_refl _) (.cells #[.slice An (bareX t).length cn, .slice none 0 0, .map none] 74)
    have s1 : W1.heap.size = w2.heap.size + 1 := by rw [← hW1]; simp
    rw [hW1] at g1 b1 ⊢
    have hbW := HB12.out.trans (b1.mono HB12.out.size)
    refine (diff_any [] t none A 0 c W1 (TreeAt.nil _ _ _ (Nat.zero_le _)) (HT.out.below hbW) (fun x hx => by cases hx) hs (HM.out.below hbW)).mono ?_
    rintro e w3 ⟨v, l, rfl, hdel, hl, hb3⟩
    obtain ⟨Ad, cd, rfl, hdels⟩ := hdel.dels
    obtain ⟨hsm, hl1⟩ := diffB_first hr hl
    have hC : w3.heap[w2.heap.size]? = some (.cells #[.slice An (bareX t).length cn, .slice none 0 0, .map none] 74 (0, 0)) := (hb3.block _ (by omega)).trans g1
    obtain ⟨m2, mmap, msz, moth, mrow⟩ := mapMade_at hC rfl
    have hlt : w2.heap.size < w3.heap.size := by have := hb3.size; omega
    have hnb : ∀ g o, Ad = some ⟨g, o, none⟩ → g ≠ w2.heap.size := fun g o e => by
      have h1 := (hdel.row (g := g) (by rw [e]; rfl)).1
      omega
    have hby : ∀ x ∈ l, BytesAt (mapMade w3 w2.heap.size) x.A x.b := fun x hx => ((hdel.bod x hx).keep fun g cur hh => moth g (Array.getElem?_eq_some_iff.1 hh).1 (fun e => by
      subst e
      rw [hC] at hh; cases hh)).at_
    have HSM := Lib.hid hsm
    have HN := Lib.hid (hnote_new w2.heap.size 0 l Ad cd w3 _ hC rfl rfl hdels hnb hby hsm)
    have HC := Lib.hid hC
    have HMO := Lib.hid moth
    have HMR := Lib.hid mrow
    have HMS := Lib.hid msz
    have HB3 := Lib.hid hb3
    have HBW := Lib.hid hbW
    have HB1W := Lib.hid b1
    have HLT := Lib.hid hlt
    have HLD := Lib.hid hl
    clear g1 b1 hbW hdel hl hb3 hdels hC m2 mmap msz moth mrow hnb hby hlt hW1
    go_wp2_with fail
    refine HN.out.mono ?_
    rintro e w4 ⟨rfl, hN⟩
    have hmbl : w3.heap.size < (mapMade w3 w2.heap.size).heap.size := by rw [HMS.out]; omega
    have hne : w2.heap.size ≠ w3.heap.size := by have := HLT.out; omega
    have hheap : w4.heap[w2.heap.size]? = some (.cells #[.slice An (bareX t).length cn, .slice none 0 0, .map (some w3.heap.size)] 74 (0, 0)) := by
      rw [hN.grown.block w2.heap.size (by have := HLT.out; omega) (fun e => hne (by simpa using e)), HMR.out]; rfl
    have hgm : w3.grownBy (mapMade w3 w2.heap.size) (some w2.heap.size) := ⟨rfl, rfl, rfl, by rw [HMS.out]; omega, fun k hk hkn => HMO.out k hk (fun e => hkn (by rw [e]))⟩
    have hnames : FilesOwn w.heap.size w4 (.slice An (bareX t).length cn) (bareX t) := by
      have h3 : FilesOwn w1.heap.size w3 (.slice An (bareX t).length cn) (bareX t) := (HNM.out.below HB1W.out).below HB3.out
      have h4 := h3.keepG hgm (fun g e cur hh => by
        have e : w2.heap.size = g := by simpa using e
        subst e
        rw [HC.out] at hh; cases hh)
      have h5 := h4.keepG hN.grown (fun g e cur hh => by
        have e : w3.heap.size = g := by simpa using e
        subst e
        have h6 := (Array.getElem?_eq_some_iff.1 hh).1
        obtain ⟨es, ck, h7⟩ := (mapMade_at HC.out rfl).2.1.block
        rw [h7] at hh; cases hh)
      exact h5.base HB1.out
    have hrevs : RevsAt 85 w4 (laidS (.map []) (w3.heap.size + 1) (l.map fun x => x.p.data.toList) l.length) (fun _ => 0) := by
      have h := hN.revs (r := 0) (M := fun _ => 0) (fun s => .inl ⟨rfl, rfl⟩) Maps.isMap_empty
      have e : (fun s : Bs => if s ∈ (l.map fun x => x.p.data.toList) then 0 else 0) = fun _ => (0 : Nat) := by
        funext s
        split <;> rfl
      rwa [e] at h
    have hbz : Below w.heap.size w w4 := by
      refine (HBW.out.trans (HB3.out.mono HBW.out.size)).trans ⟨hN.grown.os, hN.grown.tape, hN.grown.output, Nat.le_trans hgm.size hN.grown.size, fun k hk => ?_⟩
      have hs2 := HB12.out.size
      have hlt := HLT.out
      rw [hN.grown.block k (by omega) (fun e => by have e : k = w3.heap.size := by simpa using e
                                                   omega), HMO.out k (by omega) (by omega)]
    have HH := Lib.hid (⟨hheap, hnames.base (Nat.zero_le _), by rw [bareX_fls]; exact bareT_right hr, bareX_bare, World.ownsRow_nil _ _ _ _, rfl, ⟨_, rfl, hN.rev, rfl⟩, (fun y hy => by rw [List.mem_singleton] at hy; subst hy; exact HSM.out), hN.map, by omega, hrevs, fun _ => Nat.zero_le _, HB12.out.size, by have := HB12.out.size; have := HLT.out; omega⟩ : HistAt w.heap.size w4 w2.heap.size 0 (bareX t) (fun _ => 0) (.slice An (bareX t).length cn) (.slice none 0 0) w3.heap.size (0 + l.length) _ [(w3.heap.size + 1, l)])
    have HBZ := Lib.hid hbz
    clear hN hmbl hne hheap hgm hnames hrevs hbz
    go_wp2_with fail
    go_ret2
    unfold NewPost
    rw [if_pos HR2.out]
    exact ⟨_, _, _, _, _, _, _, _, rfl, HH.out, HLD.out, HBZ.out⟩
end Go.Proofs.YtffhfllikamccaaGreatDoor
