/-
  The queue's paths: each path of changes, once. · The program's Since of layer 3 (history), of any paths: how many it answers. (Of XHSince.) · What becomes of a request. (gen_quout.py)
-/
import Derived.Test.YtnkfnmkbfnhmfaaDoorQuSubmit
import Derived.Maps.OwnSet
import Derived.Test.YtnkfnmkbfnhmfaaDoorGCommit
import Derived.Test.YtnkfnmkbfnhmfaaDoorShelf
import Derived.Deep.RegionHeld3
import Derived.BigQuiet
namespace Go.Proofs.YtnkfnmkbfnhmfaaDoor
open Go Go.RowKit Go.Shelf Go.Proofs Go.ChangeMaps Go.Maps Go.WideMaps
attribute [local go_sem] Oper.semAt_some

def addU (K : List Bs) (p : Bs) : List Bs := if p ∈ K then K else K ++ [p]
def uniqP (l : List Bs) : List Bs := l.foldl addU []
theorem uniqP_snoc (l : List Bs) (p : Bs) : uniqP (l ++ [p]) = addU (uniqP l) p := by unfold uniqP; rw [List.foldl_append]; rfl
theorem uniq_mem_gen : ∀ (l K : List Bs) (p : Bs), p ∈ l.foldl addU K ↔ p ∈ K ∨ p ∈ l
  | [], K, p => by simp
  | x :: l, K, p => by
    rw [List.foldl_cons, uniq_mem_gen l (addU K x) p]
    unfold addU
    split
    · rename_i h
      constructor
      · rintro (h1 | h1)
        · exact .inl h1
        · exact .inr (List.mem_cons_of_mem _ h1)
      · rintro (h1 | h1)
        · exact .inl h1
        · rcases List.mem_cons.1 h1 with rfl | h1
          · exact .inl h
          · exact .inr h1
    · simp only [List.mem_append, List.mem_cons, List.mem_nil_iff, or_false, or_assoc]
theorem uniq_mem (l : List Bs) (p : Bs) : p ∈ uniqP l ↔ p ∈ l := by unfold uniqP; rw [uniq_mem_gen]; simp
theorem uniq_len_gen : ∀ (l K : List Bs), (l.foldl addU K).length ≤ K.length + l.length
  | [], K => by simp
  | x :: l, K => by
    rw [List.foldl_cons]
    have := uniq_len_gen l (addU K x)
    have h2 : (addU K x).length ≤ K.length + 1 := by unfold addU; split <;> simp
    simp only [List.length_cons]; omega
theorem uniq_len (l : List Bs) : (uniqP l).length ≤ l.length := by have := uniq_len_gen l []; simpa [uniqP] using this
theorem skeyedQ : Keyed Tryd.prog 9 := string_keyed Tryd.underlying9
theorem zero_unitQ (w : World) : (zeroValue 131).run Tryd.prog w = .ok (.agg #[]) w := by kernel_rfl
theorem ownsRow_belowQ {w w' : World} {base e size n : Nat} {v : Value} {xs : List Value} (h : w.ownsRow base e size v n xs) (hb : Below w.heap.size w w') : w'.ownsRow base e size v n xs := ⟨h.1, h.2.imp (fun h => h) fun ⟨g, cap, cur, hv, hb', hg, r⟩ => ⟨g, cap, cur, hv, hb', row_belowQ hg hb, r⟩⟩
theorem cell_oneQ (w : World) (x : Value) (t : TypeId) : ∀ j u, [x][j]? = some u → (w.alloc (.cells #[x] t)).cell? ((⟨w.heap.size, 0, none⟩ : Addr).add j) = some u := by
  intro j u hj
  match j, hj with
  | 0, hj => simp at hj; subst hj; simp [Addr.add]
  | (j + 1), hj => simp at hj
def strQ (l : List Bs) : List Value := l.map fun p => .string (mkB p)
theorem strQ_one (l : List Bs) (p : Bs) : strQ (l ++ [p]) = strQ l ++ [.string (mkB p)] := by simp [strQ]
theorem qstring_info : (Tryd.prog.info? 9).map (fun i => (i.zero, i.size, i.bytes)) = some (some (.string ⟨#[]⟩), 1, 16) := by kernel_rfl
/-- The map at m has these names. -/
def SeenAt (W : World) (m n : Nat) (K : List Bs) : Prop := ∃ (k : Nat) (D : DataW Unit), W.ownsMap Tryd.prog 9 unitElem m k D ∧ k ≤ n ∧ ∀ s : Bs, Maps.has D (.string s) = true ↔ s ∈ K
theorem SeenAt.put {W : World} {m k n : Nat} {K : List Bs} {D : DataW Unit} {s : Bs} (h1 : W.ownsMap Tryd.prog 9 unitElem m (k + 1) (D.put (.string s) (.agg []))) (hD : Maps.IsMap D) (hk : k ≤ n) (h3 : ∀ s : Bs, Maps.has D (.string s) = true ↔ s ∈ K) : SeenAt W m (n + 1) (K ++ [s]) := by
  have hkl : WideAt.IsKeyLit (.string s) := by simp [WideAt.IsKeyLit]
  refine ⟨k + 1, _, h1, by omega, fun t => ?_⟩
  by_cases e : t = s
  · subst e
    rw [Maps.has_put_same hD hkl]; simp
  · rw [Maps.has_put_other (fun h => e (by simpa using h)), h3 t]
    simp [e]
set_option maxRecDepth 100000 in
set_option maxHeartbeats 16000000 in
theorem paths_any (l : List DX) (A : Option Addr) (c : Nat) (w : World) (h : DelsAt w A c l) (hs : SmallD l) :
    Calls Tryd.prog 50 #[.slice A l.length c] w fun e w' => ∃ v', e = .returned v' ∧ w'.ownsRow w.heap.size 9 1 v' (uniqP (pathsX l)).length (strQ (uniqP (pathsX l))) ∧ Below w.heap.size w w' := by
  obtain ⟨si, hi, hz0, hz1, hz2⟩ := info_parts qstring_info
  obtain ⟨N, hN⟩ : ∃ N, l.length = N := ⟨_, rfl⟩
  have HN := Lib.hid hN
  have HH := Lib.hid h
  have HS := Lib.hid hs
  have hNl : N ≤ 10000 := by rw [← hN]; exact hs.1
  rw [hN]
  obtain ⟨mb, hmb⟩ : ∃ mb, w.heap.size = mb := ⟨_, rfl⟩
  obtain ⟨W0, hW0⟩ : ∃ W, w.alloc (.map #[] 0) = W := ⟨_, rfl⟩
  have hmk := run_makeMap_plain (P := Tryd.prog) w 130
  rw [hmb, hW0] at hmk
  have HS0 := Lib.hid (show SeenAt W0 mb 0 [] by rw [← hW0, ← hmb]; exact ⟨0, .map [], World.ownsMap_made w _ _ _, Nat.le_refl _, fun s => by simp [Maps.has]⟩)
  have HB0 := Lib.hid (show Below w.heap.size w W0 by rw [← hW0]; exact (Below.refl _ _).alloc (Nat.le_refl _) _)
  have HMB := Lib.hid hmb
  clear hN h hs hmb hW0
  go_enter Tryd.func50, Tryd.ntmps50
  go_wp2_with fail
  go_step3
  go_wp2_with fail
  go_step3
  go_wp2_with fail
  clear hmk
  go_loopw [3, 12] (fun v3 v12 wr => ∃ (k : Nat) (K : List Bs) (v : Value), v3 = v ∧ k ≤ N ∧ v12 = .int .i64 k ∧ Hid (K = uniqP (pathsX (l.take k))) ∧ Hid (SeenAt wr mb k K) ∧ Hid (wr.ownsRow w.heap.size 9 1 v K.length (strQ K)) ∧ K.length ≤ k ∧ Hid (Below w.heap.size w wr)) (fun _ v12 _ => N - (intOf v12).toNat)
  case atStart => exact ⟨0, [], _, rfl, Nat.zero_le _, rfl, rfl, HS0.out, World.ownsRow_nil _ _ _ _, Nat.le_refl _, HB0.out⟩
  case round =>
    obtain ⟨k, K, v, hv, hk, rfl, HK, HSN, HOW, hKk, HB⟩ := hrel
    have hv' := hv.symm
    subst hv'
    clear hv
    by_cases hlt : k < N
    · have q1 : (k : Int) < (N : Int) := by omega
      obtain ⟨x, hx⟩ : ∃ x, l[k]? = some x := ⟨_, List.getElem?_eq_getElem (by rw [HN.out]; exact hlt)⟩
      obtain ⟨g, o, hA, hr⟩ := (HH.out.below HB.out).row (by rw [HN.out]; omega)
      subst hA
      obtain ⟨d0, d1, d2⟩ := hr k x hx
      have hxz := (HS.out.2 x (List.mem_of_getElem? hx)).1
      obtain ⟨kk, D, hown, hkk, hhas⟩ := HSN.out
      have hkey : keyOf Tryd.prog 9 (.string x.p) = some (.string x.p.data.toList) := keyOf_string_mk (P := Tryd.prog) Tryd.underlying9 (by unfold maxLen; omega)
      have hnext : uniqP (pathsX (l.take (k + 1))) = addU K x.p.data.toList := by
        rw [List.take_add_one, hx, HK.out]
        show uniqP (pathsX (l.take k ++ [x])) = _
        unfold pathsX
        rw [List.map_append]
        exact uniqP_snoc _ _
      have HNX := Lib.hid hnext
      have HKEY := Lib.hid hkey
      have HOWN := Lib.hid hown
      have HHAS := Lib.hid hhas
      have hmlt : mb < wr.heap.size := by have := HB.out.size; obtain ⟨es, ck, he, _⟩ := hown; exact (Array.getElem?_eq_some_iff.1 he).1
      obtain ⟨W1, hW1⟩ : ∃ W, wr.alloc (.cells #[.int .i64 x.k, .string x.p, .slice x.A x.b.length x.c] 51) = W := ⟨_, rfl⟩
      have hb1 : Below wr.heap.size wr W1 := by rw [← hW1]; exact (Below.refl _ _).alloc (Nat.le_refl _) _
      have hn1 : W1.heap[wr.heap.size]? = some (.cells #[.int .i64 x.k, .string x.p, .slice x.A x.b.length x.c] 51 (0, 0)) := by rw [← hW1]; exact heap_alloc_new _ _
      obtain ⟨bx, hbx⟩ : ∃ b, wr.heap.size = b := ⟨_, rfl⟩
      have p1 := cell_of_row W1 wr.heap.size 1 _ _ _ hn1
      simp only [List.getElem?_toArray, List.getElem?_cons_zero, List.getElem?_cons_succ] at p1
      have HB1 := Lib.hid hb1
      have HOWN1 := Lib.hid (ownsMap_keep hown fun o ho => row_belowQ ho hb1)
      have HW1 := Lib.hid hW1
      have HIS := Lib.hid hown.isMap
      have hs1 := hb1.size
      have hmb1 : mb < W1.heap.size := Nat.lt_of_lt_of_le hmlt hs1
      have HOW1 := Lib.hid (ownsRow_belowQ HOW.out hb1)
      rw [hbx] at p1
      have HBX := Lib.hid hbx
      clear hx hr hown hhas hkey hnext hb1 hn1 hW1 hbx
      cases hmem : Maps.has D (.string x.p.data.toList) with
      | true =>
        have hin : addU K x.p.data.toList = K := by unfold addU; rw [if_pos ((HHAS.out _).1 hmem)]
        have HIN := Lib.hid hin
        have HME := Lib.hid hmem
        clear hin hmem
        go_upto_region 6 with fail
        rw [HW1.out, HBX.out]
        clear d0 d1 d2
        go_wp2_with (at_lookup; refine wpList_lookup_own_unit _ rfl _ _ 130 rfl 9 131 skeyedQ Tryd.underlying130 (zero_unitQ _) mb kk D rfl HOWN1.out _ _ rfl HKEY.out ?_; rw [HME.out])
        go_roundw
        case rel =>
          have hb2 : Below W1.heap.size W1 (W1.alloc (.cells #[] 131)) := (Below.refl _ _).alloc (Nat.le_refl _) _
          exact ⟨k + 1, K, _, rfl, by omega, by go_num, by unfold Hid; rw [HNX.out, HIN.out], ⟨kk, D, ownsMap_keep HOWN1.out fun o ho => row_belowQ ho hb2, by omega, HHAS.out⟩, HOW1.out.alloc _, by omega, HB.out.trans ((HB1.out.trans (hb2.mono hs1)).mono HB.out.size)⟩
        case measure => simp [intOf]; omega
      | false =>
        have hin : addU K x.p.data.toList = K ++ [x.p.data.toList] := by
          unfold addU
          rw [if_neg (fun e => by rw [(HHAS.out _).2 e] at hmem; cases hmem)]
        have HIN := Lib.hid hin
        have HME := Lib.hid hmem
        clear hin hmem
        go_upto_region 6 with fail
        rw [HW1.out, HBX.out]
        clear d0 d1 d2
        go_upto_region 8 with (at_lookup; refine wpList_lookup_own_unit _ rfl _ _ 130 rfl 9 131 skeyedQ Tryd.underlying130 (zero_unitQ _) mb kk D rfl HOWN1.out _ _ rfl HKEY.out ?_; rw [HME.out])
        obtain ⟨W2, hW2⟩ : ∃ W, W1.alloc (.cells #[] 131) = W := ⟨_, rfl⟩
        have hb2 : Below W1.heap.size W1 W2 := by rw [← hW2]; exact (Below.refl _ _).alloc (Nat.le_refl _) _
        have p2 := (hb2.cell (p := ⟨bx, 1, none⟩) (World.block_lt_of_cell? W1 (a := ⟨bx, 1, none⟩) p1)).trans p1
        have HOWN2 := Lib.hid (ownsMap_keep HOWN1.out fun o ho => row_belowQ ho hb2)
        have HOW2 := Lib.hid (ownsRow_belowQ HOW1.out hb2)
        have HB2 := Lib.hid (HB.out.trans ((HB1.out.trans (hb2.mono hs1)).mono HB.out.size))
        have hbx2 : bx < W2.heap.size := World.block_lt_of_cell? W2 (a := ⟨bx, 1, none⟩) p2
        rw [hW2]
        clear p1 hb2 hW2
        go_upto_region 9 with (at_mapUpdate; go_loud (refine wpList_mapUpdate_own _ rfl _ _ _ 130 rfl 9 131 skeyedQ Tryd.underlying130 unitElem mb kk D rfl HOWN2.out (by unfold maxLen; omega) _ _ _ rfl rfl HKEY.out (.agg []) [] unitElem_mk ?_; intro w5 hown5 hgr5; have HOWN5 := Lib.hid hown5; have HGR5 := Lib.hid hgr5; clear hown5 hgr5))
        have hbm : bx ≠ mb := by have := HBX.out; omega
        have p5 : w5.cell? ⟨bx, 1, none⟩ = some (.string x.p) := (World.cell?_of_block (a := ⟨bx, 1, none⟩) (HGR5.out.block bx hbx2 (by simpa using hbm))).trans p2
        have HOW5 := Lib.hid (show w5.ownsRow w.heap.size 9 1 v K.length (strQ K) from ⟨HOW2.out.1, HOW2.out.2.imp (fun h => h) fun ⟨g, cap, cur, hv, hb', hg, r⟩ => ⟨g, cap, cur, hv, hb', (HGR5.out.block g (Array.getElem?_eq_some_iff.1 hg).1 (fun e => by
          obtain ⟨es, ck, he, _⟩ := HOWN2.out
          have e : g = mb := by simpa using e
          subst e
          rw [hg] at he; cases he)).trans hg, r⟩⟩)
        have HB5 := Lib.hid (HB2.out.grown HGR5.out HB2.out.size (fun j e => by cases e; rw [HMB.out]; exact Nat.le_refl _))
        have hb5 := HB5.out.size
        clear p2
        go_wp2_with (at_builtin; go_loud (refine wpList_append_own _ rfl _ _ 110 rfl w.heap.size 9 si (.string ⟨#[]⟩) 1 16 Tryd.underlying110 hi hz0 hz1 hz2 rfl (by decide) v K.length (strQ K) rfl (HOW5.out.alloc _) ⟨w5.heap.size, 0, none⟩ 1 1 [.string x.p] rfl rfl (cell_oneQ _ _ _) (by intro u hu; simp only [List.mem_singleton] at hu; subst hu; rfl) (by unfold maxLen; omega) (by omega) (by rw [World.size_alloc]; omega) ?_; intro v6 w6 hown6 hgr6 _))
        have hb6 : Below w.heap.size w w6 := (HB5.out.alloc hb5 _).grown hgr6 (by rw [World.size_alloc]; omega) (fun j e => (rowT_ge HOW5.out e).1)
        have HO6 := Lib.hid hown6
        have HB6 := Lib.hid hb6
        have HM6 := Lib.hid (show SeenAt w6 mb (k + 1) (K ++ [x.p.data.toList]) from by
          obtain ⟨k6, D6, ho6, hk6, hh6⟩ := SeenAt.put HOWN5.out HIS.out hkk HHAS.out
          refine ⟨k6, D6, ownsMap_keep ho6 fun o ho => ?_, hk6, hh6⟩
          refine (hgr6.block mb (by rw [World.size_alloc]; have := (Array.getElem?_eq_some_iff.1 ho).1; omega) (fun e => ?_)).trans ((Below.heap_alloc _ _ _ (Array.getElem?_eq_some_iff.1 ho).1).trans ho)
          obtain ⟨_, cur, hc⟩ := rowT_ge HOW5.out e.symm
          obtain ⟨es, ck, he, _⟩ := HOWN5.out
          rw [hc] at he; cases he)
        clear hown6 hgr6 hb6 p5
        go_wp2_with fail
        go_roundw
        case rel =>
          refine ⟨k + 1, K ++ [x.p.data.toList], _, rfl, by omega, by go_num, by unfold Hid; rw [HNX.out, HIN.out], HM6.out, ?_, by rw [List.length_append]; simp; omega, HB6.out⟩
          unfold Hid
          rw [List.length_append, strQ_one, data_mkB]
          exact HO6.out
        case measure => simp [intOf]; omega
    · obtain rfl : k = N := by omega
      have hfin : K = uniqP (pathsX l) := by rw [HK.out, List.take_of_length_le (by rw [HN.out]; exact Nat.le_refl _)]
      have HF := Lib.hid hfin
      clear hfin
      go_wp2_with fail
      try rw [Exit.noGoto_ret]
      go_ret
      exact ⟨v, rfl, by rw [← HF.out]; exact HOW.out, HB.out⟩
end Go.Proofs.YtnkfnmkbfnhmfaaDoor
namespace Go.Proofs.YtnkfnmkbfnhmfaaDoor
open Go Go.RowKit Go.Shelf Go.Proofs Go.ChangeMaps Go.Maps Go.WideMaps

/-- Texts that may be keys. -/
abbrev KS : Type := { s : ByteArray // s.size ≤ maxLen }
instance : Inhabited KS := ⟨⟨⟨#[]⟩, Nat.zero_le _⟩⟩
def toKS (p : Bs) : KS := if h : (mkB p).size ≤ maxLen then ⟨mkB p, h⟩ else default
theorem toKS_val {p : Bs} (h : p.length ≤ 1000000) : (toKS p).1 = mkB p := by
  unfold toKS
  rw [dif_pos (by rw [mkB_size]; unfold maxLen; omega)]
def encKS (s : KS) : Value := .string s.1

set_option maxRecDepth 100000 in
set_option maxHeartbeats 4000000 in
theorem hsince1_any (hb mb k B1 B2 : Nat) (D : DataW Unit) (M : Bs → Nat) (r : Int) (s : KS) (W : World) (h2 : W.cell? ⟨hb, 2, none⟩ = some (.map (some mb))) (hmap : MapAt W mb k D) (hr : RevsAt 93 W D M)
    (h3 : W.cell? ⟨B1, 0, none⟩ = some (.pointer (some ⟨hb, 0, none⟩))) (h4 : W.cell? ⟨B2, 0, none⟩ = some (.int .i64 r)) :
    Calls Tryd.prog 71 #[.string s.1, .pointer (some ⟨B1, 0, none⟩), .pointer (some ⟨B2, 0, none⟩)] W fun e w' => e = .returned (.bool (decide ((M s.1.data.toList : Int) ≤ r))) ∧ ∃ q, w' = W.drewN q := by
  go_enter Tryd.func71, Tryd.ntmps71
  go_wp2_with fail
  refine wp_region_held_drew (S := (fun w' => w'.cell? ⟨B1, 0, none⟩ = some (.pointer (some ⟨hb, 0, none⟩)) ∧ w'.cell? ⟨B2, 0, none⟩ = some (.int .i64 r))) (by kernel_rfl) ⟨h3, h4⟩ (fun hHeld => ?_)
  refine wpAnyH_take (i := 0) (v := ?vz0) rfl (by kernel_rfl) (by kernel_rfl) (by kernel_rfl) (fun _ _ _ h => h) (Or.inl ⟨by rfl, ?yz0⟩) (by assumption) ?rz0
  case yz0 =>
    intro w hSw
    (try dsimp only at hSw)
    go_simp
    first | done | with_reducible rfl
  try simp only [Act.put, List.getElem_toArray, List.getElem_cons_zero, List.setIfInBounds_toArray, List.set_cons_zero, List.set_cons_succ]
  refine wpAnyH_take (i := 1) (v := ?vz1) rfl (by kernel_rfl) (by kernel_rfl) (by kernel_rfl) (fun _ _ _ h => h) (Or.inl ⟨by rfl, ?yz1⟩) (by assumption) ?rz1
  case yz1 =>
    intro w hSw
    (try dsimp only at hSw)
    go_simp
    first | done | with_reducible rfl
  try simp only [Act.put, List.getElem_toArray, List.getElem_cons_zero, List.getElem_cons_succ, List.setIfInBounds_toArray, List.set_cons_zero, List.set_cons_succ]
  refine wpAnyH_take (i := 3) (v := ?vz3) rfl (by kernel_rfl) (by kernel_rfl) (by kernel_rfl) (fun _ _ _ h => h) (Or.inl ⟨by rfl, ?yz3⟩) (by assumption) ?rz3
  case yz3 =>
    intro w hSw
    (try dsimp only at hSw)
    go_simp
    first | done | with_reducible rfl
  try simp only [Act.put, List.getElem_toArray, List.getElem_cons_zero, List.getElem_cons_succ, List.setIfInBounds_toArray, List.set_cons_zero, List.set_cons_succ]
  refine wpAnyH_ready (rs := [2]) (by kernel_rfl) (by simp) ?_
  refine AllReadyH.cons rfl (fun K hK => ?_) AllReadyH.nil
  go_simp
  refine (hlast_any hb mb k D M s.1 s.2 W.drew h2 hmap hr).mono ?_
  rintro e w9 ⟨rfl, rfl⟩
  go_wp2_with fail
  refine hK.out _ _ ⟨h3, h4⟩ (fun hHeld => ?_)
  clear hK K
  try simp only [Act.put, List.getElem_toArray, List.getElem_cons_zero, List.getElem_cons_succ, List.setIfInBounds_toArray, List.set_cons_zero, List.set_cons_succ]
  refine wpAnyH_take (i := 4) (v := ?vz4) rfl (by kernel_rfl) (by kernel_rfl) (by kernel_rfl) (fun _ _ _ h => h) (Or.inl ⟨by rfl, ?yz4⟩) (by assumption) ?rz4
  case yz4 =>
    intro w hSw
    (try dsimp only at hSw)
    go_simp
    first | done | with_reducible rfl
  try simp only [Act.put, List.getElem_toArray, List.getElem_cons_zero, List.getElem_cons_succ, List.setIfInBounds_toArray, List.set_cons_zero, List.set_cons_succ]
  refine wpAnyH_take (i := 5) (v := ?vz5) rfl (by kernel_rfl) (by kernel_rfl) (by kernel_rfl) (fun _ _ _ h => h) (Or.inl ⟨by rfl, ?yz5⟩) (by assumption) ?rz5
  case yz5 =>
    intro w hSw
    (try dsimp only at hSw)
    go_simp
    first | done | with_reducible rfl
  try simp only [Act.put, List.getElem_toArray, List.getElem_cons_zero, List.getElem_cons_succ, List.setIfInBounds_toArray, List.set_cons_zero, List.set_cons_succ]
  refine wpAnyH_done (by kernel_rfl) ?_ _
  go_wp2_with fail
  go_ret
  exact ⟨rfl, 1, rfl⟩

theorem heap_putRow {α : Type} [Inhabited α] (enc : α → Value) (w : World) (q blk off : Nat) (d : Array α) (j : Nat) (h : j ≠ blk) : (Sort.putRow enc (Sort.ahead w q) blk off d).heap[j]? = w.heap[j]? := by
  unfold Sort.putRow Sort.mapBlock Sort.ahead
  simp only [Array.getElem?_modify]
  rw [if_neg (fun e => h e.symm)]
theorem heap_sortWorld {α : Type} [Inhabited α] (enc : α → Value) (w : World) (blk off m : Nat) (dk : Array α) (os : Array Obj) (j : Nat) (hj : j < w.heap.size) (h : j ≠ blk) : (sortWorld enc w blk off m dk os).heap[j]? = w.heap[j]? := by
  unfold sortWorld
  rw [Sort.heap_grow_old _ _ (by simpa [Sort.putRow, Sort.mapBlock, Sort.ahead] using hj)]
  exact heap_putRow enc w m blk off dk j h
def SincePost (m : Nat) (w : World) (e : Ending) (w' : World) : Prop := ∃ A c, e = .returned (.slice A m c) ∧ Below w.heap.size w w'
theorem below_putRow {α : Type} [Inhabited α] (enc : α → Value) {B : Nat} {a w : World} (h : Below B a w) (q blk off : Nat) (d : Array α) (hb : B ≤ blk) : Below B a (Sort.putRow enc (Sort.ahead w q) blk off d) :=
  h.trans ⟨rfl, rfl, rfl, by simp [Sort.putRow, Sort.mapBlock, Sort.ahead], fun j hj => heap_putRow enc w q blk off d j (by omega)⟩

set_option maxRecDepth 100000 in
set_option maxHeartbeats 8000000 in
theorem hsince_many {base : Nat} {hb0 n : Nat} {nm : List FX} {M : Bs → Nat} {nv cv : Value} {mb k : Nat} {D : DataW Unit} {H : List (Nat × List DX)} (w : World) (hH : HistAt base w hb0 n nm M nv cv mb k D H) (r : Int) (P : List Bs) (g c : Nat) (hg : ∀ i p, P[i]? = some p → w.cell? ⟨g, i, none⟩ = some (.string (mkB p))) (h0 : 0 < P.length) (hP : ∀ p ∈ P, p.length ≤ 1000000) (hPl : P.length ≤ 100000) :
    Calls Tryd.prog 49 #[.pointer (some ⟨hb0, 0, none⟩), .int .i64 r, .slice (some ⟨g, 0, none⟩) P.length c] w (SincePost (P.filter fun p => !decide ((M p : Int) ≤ r)).length w) := by
  obtain ⟨N, hN⟩ : ∃ N, P.length = N := ⟨_, rfl⟩
  have hmf : ∀ (fn : Fn) (first cap : Array Value) (w : World), (Instr.makeFunc fn first cap).run Tryd.prog w = .ok (.func fn first cap) w := fun _ _ _ _ => rfl
  have HH := Lib.hid hH
  have HG := Lib.hid hg
  clear hH hg
  obtain ⟨z, hz⟩ : ∃ z, (P.filter fun p => !decide ((M p : Int) ≤ r)).length = z := ⟨_, rfl⟩
  rw [hz]
  have HZ := Lib.hid hz
  have HPL := Lib.hid hPl
  have HPS := Lib.hid hP
  have HN := Lib.hid hN
  have hgl : g < w.heap.size := by
    obtain ⟨p, hp⟩ : ∃ p, P[0]? = some p := ⟨_, List.getElem?_eq_getElem h0⟩
    exact World.block_lt_of_cell? w (a := ⟨g, 0, none⟩) (HG.out 0 p hp)
  have h0' : 0 < N := by omega
  have hNl : N ≤ 100000 := by omega
  rw [hN]
  clear hz hP hN hPl h0
  go_enter Tryd.func49, Tryd.ntmps49
  go_wp2_with fail
  obtain ⟨W1, hW1⟩ : ∃ W, w.alloc (.cells #[.pointer (some ⟨hb0, 0, none⟩)] 27) = W := ⟨_, rfl⟩
  have g1 := heap_alloc_new w (.cells #[.pointer (some ⟨hb0, 0, none⟩)] 27)
  have s1 : W1.heap.size = w.heap.size + 1 := by rw [← hW1]; simp
  have b1 := below_box w (.cells #[.pointer (some ⟨hb0, 0, none⟩)] 27)
  rw [hW1] at g1 b1 ⊢
  obtain ⟨W2, hW2⟩ : ∃ W, W1.alloc (.cells #[.int .i64 r] 3) = W := ⟨_, rfl⟩
  have g2 := heap_alloc_new W1 (.cells #[.int .i64 r] 3)
  have b2 := below_box W1 (.cells #[.int .i64 r] 3)
  have s2 : W2.heap.size = w.heap.size + 2 := by rw [← hW2]; simp [s1]
  rw [hW2] at g2 b2 ⊢
  rw [s1] at g2
  have g1 : W2.heap[w.heap.size]? = _ := (b2.block w.heap.size (by omega)).trans g1
  have b12 := b1.trans (b2.mono b1.size)
  refine (Tryd.slices_Clone_string g 0 N c (P.map mkB) W2 (by rw [List.length_map, HN.out]; exact Nat.le_refl _) (by omega) (fun j hj => ?_)).mono ?_
  · have hj : j < P.length := by simpa [HN.out] using hj
    have h1 := HG.out j _ (List.getElem?_eq_getElem hj)
    rw [Nat.zero_add]
    refine ((b12.cell (p := ⟨g, j, none⟩) hgl).trans h1).trans ?_
    simp [List.getD, hj]
  rintro e w3 ⟨v, rfl, hown, hnn, hb3⟩
  rw [List.take_of_length_le (by rw [List.length_map, HN.out]; exact Nat.le_refl _)] at hown
  obtain ⟨G, cap, cur, rfl, hG, hcur, hcap⟩ : ∃ G cap cur, v = .slice (some ⟨G, 0, none⟩) N cap ∧ W2.heap.size ≤ G ∧ w3.heap[G]? = some (.cells cur 9 (0, 0)) ∧ N ≤ cap := by
    rcases hown.2 with ⟨h0, _⟩ | ⟨G, cap, cur, h0, h1, h2, h3, _⟩
    · exact absurd h0 hnn
    · exact ⟨G, cap, cur, h0, h1, h2, h3⟩
  have hcell : ∀ i p, P[i]? = some p → w3.cell? ⟨G, i, none⟩ = some (.string (mkB p)) := fun i p hp => by
    have h := World.ownsRow.cells hown (g := G) rfl i (.string (mkB p)) (by rw [List.getElem?_map, List.getElem?_map, hp]; rfl)
    rwa [Go.WideShapes.add_plain, Nat.zero_add] at h
  have g1 : w3.heap[w.heap.size]? = _ := (hb3.block w.heap.size (by omega)).trans g1
  have g2 : w3.heap[w.heap.size + 1]? = _ := (hb3.block (w.heap.size + 1) (by omega)).trans g2
  have hb := b12.trans (hb3.mono b12.size)
  have hH3 := HH.out.below hb
  have eg := enters_of (P := Tryd.prog) Tryd.func71 (by kernel_rfl) rfl
  have hkeep : ∀ (W : World) (x : KS), (∀ j, j < w3.heap.size → j ≠ G → W.heap[j]? = w3.heap[j]?) → FnGives Tryd.prog 71 #[.pointer (some ⟨w.heap.size, 0, none⟩), .pointer (some ⟨w.heap.size + 1, 0, none⟩)] #[encKS x] (.bool (decide ((M x.1.data.toList : Int) ≤ r))) W := fun W x hW => by
    have hlt : ∀ {j : Nat} {o : Obj}, w3.heap[j]? = some o → j < w3.heap.size := fun h => (Array.getElem?_eq_some_iff.1 h).1
    have k1 : W.heap[w.heap.size]? = _ := (hW _ (hlt g1) (by omega)).trans g1
    have k2 : W.heap[w.heap.size + 1]? = _ := (hW _ (hlt g2) (by omega)).trans g2
    have hbl : hb0 < w.heap.size := (Array.getElem?_eq_some_iff.1 HH.out.heap).1
    have k3 : W.heap[hb0]? = _ := (hW hb0 (by have := b12.size; have := hb3.size; omega) (by omega)).trans hH3.heap
    have hmap : MapAt W mb k D := hH3.map.keep (by
      obtain ⟨es, ck, hy⟩ := HH.out.map.block
      have hml := (Array.getElem?_eq_some_iff.1 hy).1
      exact hW mb (by have := b12.size; have := hb3.size; omega) (by omega))
    have hrv : RevsAt 93 W D M := hH3.revs.keep fun q cur2 hq => hW q (hlt hq) (fun e => by
      subst e
      rw [hcur] at hq; cases hq)
    exact hsince1_any hb0 mb k w.heap.size (w.heap.size + 1) D M r x W (cell_of_row W hb0 2 _ _ _ k3) hmap hrv (cell_of_row W w.heap.size 0 _ _ _ k1) (cell_of_row W (w.heap.size + 1) 0 _ _ _ k2)
  have hp : PredAt Tryd.prog 71 #[.pointer (some ⟨w.heap.size, 0, none⟩), .pointer (some ⟨w.heap.size + 1, 0, none⟩)] encKS (fun x => decide ((M x.1.data.toList : Int) ≤ r)) w3 := fun W x hW => hkeep W x (fun j hj _ => hW.block j hj)
  obtain ⟨arr, harr⟩ : ∃ arr : Array KS, (P.map toKS).toArray = arr := ⟨_, rfl⟩
  have hsz : arr.size = N := by rw [← harr]; simp [HN.out]
  have hat : ∀ j, j < N → ∃ p, P[j]? = some p ∧ arr[j]! = toKS p := fun j hj => by
    obtain ⟨p, hp⟩ : ∃ p, P[j]? = some p := ⟨_, List.getElem?_eq_getElem (by rw [HN.out]; exact hj)⟩
    refine ⟨p, hp, ?_⟩
    rw [← harr]
    have e : ((P.map toKS).toArray)[j]? = some (toKS p) := by simp [hp]
    obtain ⟨hl, he⟩ := Array.getElem?_eq_some_iff.1 e
    rw [getElem!_pos _ j hl, he]
  have hpo : PredOver Tryd.prog 71 #[.pointer (some ⟨w.heap.size, 0, none⟩), .pointer (some ⟨w.heap.size + 1, 0, none⟩)] encKS (fun x => decide ((M x.1.data.toList : Int) ≤ r)) G 0 arr.size w3 := fun m os dk x _ => hkeep _ x (fun j hj hne => heap_sortWorld encKS w3 G 0 m dk os j hj hne)
  have hHo : Sort.Holds encKS w3 G 0 arr := fun j hj => by
    rw [hsz] at hj
    obtain ⟨p, hp, he⟩ := hat j hj
    rw [Nat.zero_add]
    refine ⟨?_, by simp [World.frozen?, hcur]⟩
    rw [he]
    show w3.cell? _ = some (.string (toKS p).1)
    rw [toKS_val (by have := HPS.out p (List.mem_of_getElem? hp); exact this)]
    exact hcell j p hp
  have hlen : (arr.toList.filter fun x => !decide ((M x.1.data.toList : Int) ≤ r)).length = (P.filter fun p => !decide ((M p : Int) ≤ r)).length := by
    rw [← harr]
    show ((P.map toKS).filter _).length = _
    rw [List.filter_map, List.length_map]
    congr 1
    refine List.filter_congr fun p hp => ?_
    show (!decide ((M (toKS p).1.data.toList : Int) ≤ r)) = _
    rw [toKS_val (HPS.out p hp), mkB_data]
  have HD := Tryd.slices_DeleteFunc encKS (fun _ => rfl) (fun x => decide ((M x.1.data.toList : Int) ≤ r)) 71 #[.pointer (some ⟨w.heap.size, 0, none⟩), .pointer (some ⟨w.heap.size + 1, 0, none⟩)] eg default (fun _ => by kernel_rfl) G 0 cap arr w3 hp hpo hHo (by rw [hsz]; omega) (by rw [hsz]; exact hcap)
  rw [hsz] at HD
  have HD := Lib.hid HD
  rw [HZ.out] at hlen
  have HL := Lib.hid hlen
  have HB := Lib.hid hb
  have HGE := Lib.hid (show w.heap.size ≤ G by omega)
  clear hp hpo hHo hlen hkeep hat eg hH3 hb g1 g2 hcell hcur hown hnn hb3 b1 b2 b12 hW1 hW2 s1 s2 hG
  go_wp2_with fail
  refine HD.out.mono ?_
  rintro e w4 ⟨he, q, hq⟩
  rw [HL.out] at he
  have HBZ : Hid (Below w.heap.size w w4) := by
    rw [hq]
    exact below_putRow encKS HB.out q G 0 _ HGE.out
  subst he
  clear hq
  go_wp2_with fail
  go_ret
  exact ⟨_, _, rfl, HBZ.out⟩
end Go.Proofs.YtnkfnmkbfnhmfaaDoor
namespace Go.Proofs.YtnkfnmkbfnhmfaaDoor
open Go Go.RowKit Go.Shelf Go.Proofs Go.ChangeMaps Go.Maps Go.WideMaps
attribute [local go_sem] Oper.semAt_some

def AnsB (W : World) (b : Nat) (x : AX) : Prop := W.heap[b]? = some (.cells #[.int .i64 x.id, .int .i64 x.k, .int .i64 x.r, .int .i64 x.e] 36 (0, 0))
theorem AnsB.facts {W : World} {b : Nat} {x : AX} (h : AnsB W b x) : W.cell? ⟨b, 0, none⟩ = some (.int .i64 x.id) ∧ W.cell? ⟨b, 1, none⟩ = some (.int .i64 x.k) ∧ W.cell? ⟨b, 2, none⟩ = some (.int .i64 x.r) ∧ W.cell? ⟨b, 3, none⟩ = some (.int .i64 x.e) ∧ W.frozen? ⟨b, 0, none⟩ = false ∧ W.frozen? ⟨b, 1, none⟩ = false ∧ W.frozen? ⟨b, 2, none⟩ = false ∧ W.frozen? ⟨b, 3, none⟩ = false :=
  ⟨cell_of_row W b 0 _ _ _ h, cell_of_row W b 1 _ _ _ h, cell_of_row W b 2 _ _ _ h, cell_of_row W b 3 _ _ _ h, frozen_of_row W b 0 _ _ h, frozen_of_row W b 1 _ _ h, frozen_of_row W b 2 _ _ h, frozen_of_row W b 3 _ _ h⟩
theorem AnsB.store {W : World} {b : Nat} {x : AX} (h : AnsB W b x) (y : AX) : AnsB ((((W.setCell ⟨b, 0, none⟩ (.int .i64 y.id)).setCell ⟨b, 1, none⟩ (.int .i64 y.k)).setCell ⟨b, 2, none⟩ (.int .i64 y.r)).setCell ⟨b, 3, none⟩ (.int .i64 y.e)) b y ∧ W.grownBy ((((W.setCell ⟨b, 0, none⟩ (.int .i64 y.id)).setCell ⟨b, 1, none⟩ (.int .i64 y.k)).setCell ⟨b, 2, none⟩ (.int .i64 y.r)).setCell ⟨b, 3, none⟩ (.int .i64 y.e)) (some b) := by
  have h1 := heap_setCell_same W b 0 _ _ (.int .i64 y.id) h
  have h2 := heap_setCell_same _ b 1 _ _ (.int .i64 y.k) h1
  have h3 := heap_setCell_same _ b 2 _ _ (.int .i64 y.r) h2
  have h4 := heap_setCell_same _ b 3 _ _ (.int .i64 y.e) h3
  refine ⟨h4, ⟨rfl, rfl, rfl, by simp [World.setCell], fun q hq hne => ?_⟩⟩
  have hne : q ≠ b := fun e => hne (by rw [e])
  exact (heap_setCell_other _ ⟨b, 3, none⟩ q _ hne).trans ((heap_setCell_other _ ⟨b, 2, none⟩ q _ hne).trans ((heap_setCell_other _ ⟨b, 1, none⟩ q _ hne).trans (heap_setCell_other _ ⟨b, 0, none⟩ q _ hne)))
theorem set1_grown (W : World) (b i : Nat) (u : Value) : W.grownBy (W.setCell ⟨b, i, none⟩ u) (some b) := ⟨rfl, rfl, rfl, by simp [World.setCell], fun q _ hne => heap_setCell_other _ ⟨b, i, none⟩ q _ (fun e => hne (by rw [e]))⟩
theorem AnsB.setK {W : World} {b : Nat} {x : AX} (h : AnsB W b x) (k : Int) : AnsB (W.setCell ⟨b, 1, none⟩ (.int .i64 k)) b { x with k := k } := heap_setCell_same W b 1 _ _ (.int .i64 k) h
theorem AnsB.setR {W : World} {b : Nat} {x : AX} (h : AnsB W b x) (k : Int) : AnsB (W.setCell ⟨b, 2, none⟩ (.int .i64 k)) b { x with r := k } := heap_setCell_same W b 2 _ _ (.int .i64 k) h
theorem AnsB.setE {W : World} {b : Nat} {x : AX} (h : AnsB W b x) (k : Int) : AnsB (W.setCell ⟨b, 3, none⟩ (.int .i64 k)) b { x with e := k } := heap_setCell_same W b 3 _ _ (.int .i64 k) h
theorem names_some {base : Nat} {w : World} {v : Value} {P : List Bs} (h : w.ownsRow base 9 1 v P.length (strQ P)) (h0 : 0 < P.length) : ∃ g c, v = .slice (some ⟨g, 0, none⟩) P.length c := by
  rcases h.2 with ⟨_, e⟩ | ⟨g, cap, cur, e, _⟩
  · omega
  · exact ⟨g, cap, e⟩
theorem names_at {base g c : Nat} {w : World} {P : List Bs} (h : w.ownsRow base 9 1 (.slice (some ⟨g, 0, none⟩) P.length c) P.length (strQ P)) : ∀ i p, P[i]? = some p → w.cell? ⟨g, i, none⟩ = some (.string (mkB p)) := fun i p hp => by
  have := World.ownsRow.cells h (g := g) rfl i (.string (mkB p)) (by unfold strQ; rw [List.getElem?_map, hp]; rfl)
  rwa [Go.WideShapes.add_plain, Nat.zero_add] at this
/-- Was any of the paths changed behind the base? -/
def lateQ (M : Bs → Nat) (bs : Int) (l : List DX) : Bool := (pathsX l).any fun p => decide (bs < (M p : Int))
theorem late_len (M : Bs → Nat) (bs : Int) (l : List DX) : decide (0 < ((uniqP (pathsX l)).filter fun p => !decide ((M p : Int) ≤ bs)).length) = lateQ M bs l := by
  rw [Bool.eq_iff_iff]
  unfold lateQ
  rw [decide_eq_true_iff, List.any_eq_true, List.length_pos_iff_exists_mem]
  constructor
  · rintro ⟨p, hp⟩
    obtain ⟨h1, h2⟩ := List.mem_filter.1 hp
    exact ⟨p, (uniq_mem _ p).1 h1, by simpa using h2⟩
  · rintro ⟨p, hp, hd⟩
    exact ⟨p, List.mem_filter.2 ⟨(uniq_mem _ p).2 hp, by simpa using hd⟩⟩
theorem DeltasAt.delsQ {base : Nat} {w : World} {A : Option Addr} {c : Nat} {l : List DX} (h : DeltasAt base w (.slice A l.length c) l) : DelsAt w A c l := by
  obtain ⟨A', c', e, hd⟩ := RowD.dels h.own (fun x hx => (h.bod x hx).at_)
  cases e
  exact hd
theorem DeltasAt.keepT {base : Nat} {w w' : World} {v : Value} {l : List DX} (h : DeltasAt base w v l) (hk : ∀ (g : Nat) (cur : Array Value) (t : TypeId), t = 51 ∨ t = 5 → w.heap[g]? = some (.cells cur t (0, 0)) → w'.heap[g]? = w.heap[g]?) : DeltasAt base w' v l :=
  ⟨⟨h.own.1, h.own.2.imp (fun h => h) fun ⟨g, cap, cur, hv, hb, hg, r⟩ => ⟨g, cap, cur, hv, hb, (hk g cur _ (.inl rfl) hg).trans hg, r⟩⟩, fun u hu => (h.bod u hu).keep fun g cur hg => hk g cur _ (.inr rfl) hg⟩
theorem DeltasAt.keeps {base : Nat} {w : World} {A : Option Addr} {c hb : Nat} {l : List DX} (h : DeltasAt base w (.slice A l.length c) l) {xs : Array Value} (hh : w.heap[hb]? = some (.cells xs 68 (0, 0))) : DelsKeep w hb A c l := fun w' _ hq =>
  DeltasAt.delsQ (h.keepT fun g cur t ht hg => hq g (Array.getElem?_eq_some_iff.1 hg).1 (fun e => by
    subst e
    rw [hh] at hg
    rcases ht with rfl | rfl <;> cases hg))
/-- What becomes of it: late, flaked, refused or landed. -/
def OutPost (w0 : World) (hb n : Nat) (nm : List FX) (M : Bs → Nat) (mb : Nat) (H : List (Nat × List DX)) (x : QX) (pass : Bool) (w : World) (e : Ending) (w' : World) : Prop :=
  (∃ a : AX, e = .returned a.v ∧ a.id = x.id ∧ Below w.heap.size w w' ∧
    ((lateQ M x.base x.l = true ∧ a = ⟨x.id, 2, 0, 0⟩) ∨ (lateQ M x.base x.l = false ∧ pass = false ∧ a = ⟨x.id, 3, 0, 0⟩) ∨
     (lateQ M x.base x.l = false ∧ pass = true ∧ ∃ q : Int, q ≠ 0 ∧ applyT (flsX nm) (x.l.map DX.dl) = .error q ∧ a = ⟨x.id, 4, 0, q⟩))) ∨
  (lateQ M x.base x.l = false ∧ pass = true ∧ e = .returned (AX.v ⟨x.id, 1, ((n + 1 : Nat) : Int), 0⟩) ∧ ∃ nm' nv cv k D G, (∃ f, applyT (flsX nm) (x.l.map DX.dl) = .ok f ∧ flsX nm' = bareT f) ∧
     HistAt w0.heap.size w' hb (n + 1) nm' (fun s => if s ∈ pathsX x.l then n + 1 else M s) nv cv mb k D ((G, x.l) :: H) ∧ Below w0.heap.size w w' ∧ KeepR w w' ∧ KeepM mb w w')
theorem HistAt.keepT {base : Nat} {w w' : World} {hb n : Nat} {nm : List FX} {M : Bs → Nat} {nv cv : Value} {mb k : Nat} {D : DataW Unit} {H : List (Nat × List DX)} (h : HistAt base w hb n nm M nv cv mb k D H) (hk : ∀ (g : Nat) (cur : Array Value) (t : TypeId), t = 68 ∨ t = 57 ∨ t = 69 ∨ t = 93 ∨ t = 5 → w.heap[g]? = some (.cells cur t (0, 0)) → w'.heap[g]? = w.heap[g]?) (hm : ∀ o, w.heap[mb]? = some o → w'.heap[mb]? = some o) : HistAt base w' hb n nm M nv cv mb k D H := by
  refine ⟨(hk hb _ _ (by simp) h.heap).trans h.heap, ⟨h.names.1, ?_⟩, h.right, h.bare, ⟨h.commits.1, ?_⟩, h.num, h.full.keepB (fun g cur t ht hg => hk g cur t (by rcases ht with rfl | rfl <;> simp) hg), h.sm, h.map.keep ?_, h.room, h.revs.keep (fun g cur hg => hk g cur _ (by simp) hg), h.le, h.lb, h.lm⟩
  · exact h.names.2.imp (fun h => h) fun ⟨g, cap, cur, hv, hb, hg, r⟩ => ⟨g, cap, cur, hv, hb, (hk g cur _ (by simp) hg).trans hg, r⟩
  · exact h.commits.2.imp (fun h => h) fun ⟨g, cap, cur, hv, hb, hg, r⟩ => ⟨g, cap, cur, hv, hb, (hk g cur _ (by simp) hg).trans hg, r⟩
  · obtain ⟨es, ck, hy⟩ := h.map.block
    rw [hm _ hy, hy]
/-- A history stays where a box of an answer turns. -/
theorem HistAt.turnA {base : Nat} {w w' : World} {b hb n : Nat} {x : AX} {nm : List FX} {M : Bs → Nat} {nv cv : Value} {mb k : Nat} {D : DataW Unit} {H : List (Nat × List DX)} (h : HistAt base w hb n nm M nv cv mb k D H) (ha : AnsB w b x) (hg : w.grownBy w' (some b)) : HistAt base w' hb n nm M nv cv mb k D H := by
  have key : ∀ (j : Nat) (o : Obj), w.heap[j]? = some o → (∀ cur, o ≠ .cells cur 36 (0, 0)) → w'.heap[j]? = w.heap[j]? := fun j o ho h1 => hg.block j (Array.getElem?_eq_some_iff.1 ho).1 (fun e => by
    cases e
    unfold AnsB at ha
    rw [ha] at ho
    cases ho
    exact h1 _ rfl)
  refine h.keepT (fun g cur t ht hg => key g _ hg (fun cur' e => by cases e; revert ht; decide)) (fun o ho => ?_)
  obtain ⟨es, ck, hm⟩ := h.map.block
  rw [key mb _ hm (fun _ e => by cases e)]
  exact ho
theorem row_grownQ {w w' : World} {g b : Nat} {o : Obj} (h : w.heap[b]? = some o) (hg : w.grownBy w' (some g)) (hne : b ≠ g) : w'.heap[b]? = some o := (hg.block b (Array.getElem?_eq_some_iff.1 h).1 (by simpa using hne)).trans h
/-- What Commit answers, either way in one form. -/
theorem commit_ends {w0 : World} {hb n : Nat} {nm : List FX} {M : Bs → Nat} {l : List DX} {w : World} {H : List (Nat × List DX)} {mb : Nat} {e : Ending} {w' : World} (h : CommitPost w0 hb n nm M l w H mb e w') :
    ∃ rv ev : Int, e = .returned (.tuple #[.int .i64 rv, .int .i64 ev]) ∧ (∀ (g : Nat) (cur : Array Value) (t : TypeId), t ≠ 68 ∧ t ≠ 69 → ∀ {mk : Nat × Nat}, w.heap[g]? = some (.cells cur t mk) → w'.heap[g]? = w.heap[g]?) ∧
      ((rv = 0 ∧ ev ≠ 0 ∧ (l = [] ∨ applyT (flsX nm) (l.map DX.dl) = .error ev) ∧ Below w.heap.size w w') ∨
       (rv = ((n + 1 : Nat) : Int) ∧ ev = 0 ∧ ∃ nm' nv cv k D G, (∃ f, applyT (flsX nm) (l.map DX.dl) = .ok f ∧ flsX nm' = bareT f) ∧ HistAt w0.heap.size w' hb (n + 1) nm' (fun s => if s ∈ pathsX l then n + 1 else M s) nv cv mb k D ((G, l) :: H) ∧ Below w0.heap.size w w' ∧ KeepR w w' ∧ KeepM mb w w')) := by
  rcases h with ⟨q, hq, ha, he, hb2⟩ | ⟨nm', nv, cv, mb', k, D, G, hne, hf, he, hH, hb2, hk, hm, hmb⟩
  · exact ⟨0, q, he, fun g cur t _ _ hg => hb2.block g (Array.getElem?_eq_some_iff.1 hg).1, .inl ⟨rfl, hq, ha, hb2⟩⟩
  · subst hmb
    exact ⟨_, 0, he, hk, .inr ⟨rfl, rfl, nm', nv, cv, k, D, G, hf, hH, hb2, hk, hm⟩⟩
set_option maxRecDepth 100000 in
set_option maxHeartbeats 16000000 in
theorem outcome_any (w0 : World) {w : World} {qb hb ab room : Nat} {v : Value} {R : List QX} {L : List AX} {n : Nat} {nm : List FX} {M : Bs → Nat} {nv cv : Value} {mb k : Nat} {D : DataW Unit} {H : List (Nat × List DX)} (h : QueueAt w0.heap.size w qb hb ab room v R L) (hh : HistAt w0.heap.size w hb n nm M nv cv mb k D H) (h0 : Below w0.heap.size w0 w) (x : QX) (pass : Bool) (hn : n < 100000) (hx : DeltasAt w0.heap.size w (.slice x.A x.l.length x.c) x.l) (hs : SmallD x.l) (hx0 : 0 < x.l.length) (hm : MaxOk w0) :
    Calls Tryd.prog 33 #[.pointer (some ⟨qb, 0, none⟩), x.v, .bool pass] w (OutPost w0 hb n nm M mb H x pass w) := by
  obtain ⟨id, bs, A, c, l⟩ := x
  unfold QX.v
  simp only at hx hs hx0
  obtain ⟨m, hml⟩ : ∃ m, l.length = m := ⟨_, rfl⟩
  obtain ⟨b1, hb1⟩ : ∃ b, w.heap.size = b := ⟨_, rfl⟩
  obtain ⟨W1, hW1⟩ : ∃ W, w.alloc (.cells #[.int .i64 id, .int .i64 bs, .slice A m c] 42) = W := ⟨_, rfl⟩
  have s1 : W1.heap.size = b1 + 1 := by rw [← hW1, ← hb1]; simp
  obtain ⟨W2, hW2⟩ : ∃ W, W1.alloc (.cells #[.int .i64 0, .int .i64 0, .int .i64 0, .int .i64 0] 36) = W := ⟨_, rfl⟩
  have s2 : W2.heap.size = b1 + 2 := by rw [← hW2]; simp [s1]
  obtain ⟨Wa, hWa⟩ : ∃ W, W2.alloc (.cells #[.int .i64 0, .int .i64 0, .int .i64 0, .int .i64 0] 36) = W := ⟨_, rfl⟩
  have r1 : ReqB W1 b1 (.int .i64 id) (.int .i64 bs) (.slice A m c) := by unfold ReqB; rw [← hW1, ← hb1]; exact heap_alloc_new _ _
  have hb2 : Below W1.heap.size W1 W2 := by rw [← hW2]; exact (Below.refl _ _).alloc (Nat.le_refl _) _
  have r2 : ReqB W2 b1 (.int .i64 id) (.int .i64 bs) (.slice A m c) := row_belowQ r1 hb2
  have a2 : AnsB W2 (b1 + 1) noA := by unfold AnsB; rw [← hW2, ← s1]; exact heap_alloc_new _ _
  have hba : Below W2.heap.size W2 Wa := by rw [← hWa]; exact (Below.refl _ _).alloc (Nat.le_refl _) _
  have aa : AnsB Wa (b1 + 2) noA := by unfold AnsB; rw [← hWa, ← s2]; exact heap_alloc_new _ _
  obtain ⟨a3, g3⟩ := aa.store ⟨id, 0, 0, 0⟩
  obtain ⟨W3, hW3⟩ : ∃ W, (((Wa.setCell ⟨b1 + 2, 0, none⟩ (.int .i64 id)).setCell ⟨b1 + 2, 1, none⟩ (.int .i64 0)).setCell ⟨b1 + 2, 2, none⟩ (.int .i64 0)).setCell ⟨b1 + 2, 3, none⟩ (.int .i64 0) = W := ⟨_, rfl⟩
  simp only at a3 g3
  rw [hW3] at a3 g3
  have hbw2 : Below w.heap.size w W2 := by rw [← hW2, ← hW1]; exact ((Below.refl _ _).alloc (Nat.le_refl _) _).alloc (by simp) _
  have hb3 : Below W2.heap.size W2 W3 := hba.grown g3 hba.size (fun j e => by cases e; omega)
  have hbw3 := hbw2.trans (hb3.mono hbw2.size)
  have r3 := row_belowQ r2 hb3
  have a23 : AnsB W3 (b1 + 1) noA := row_belowQ a2 hb3
  have hq3 := h.below hbw3
  have hh3 := hh.below hbw3
  have X3 : W3.cell? ⟨qb, 0, none⟩ = some (.pointer (some ⟨hb, 0, none⟩)) ∧ W3.cell? ⟨b1, 1, none⟩ = some (.int .i64 bs) ∧ W3.cell? ⟨b1, 2, none⟩ = some (.slice A m c) := ⟨cell_of_row W3 qb 0 _ _ _ hq3.heap, cell_of_row W3 b1 1 _ _ _ r3, cell_of_row W3 b1 2 _ _ _ r3⟩
  have HHE := Lib.hid (fun (W : World) (hb' : Below W3.heap.size W3 W) => show W.cell? ⟨qb, 0, none⟩ = some (.pointer (some ⟨hb, 0, none⟩)) ∧ W.cell? ⟨b1, 1, none⟩ = some (.int .i64 bs) ∧ W.cell? ⟨b1, 2, none⟩ = some (.slice A m c) from
    ⟨cell_of_row W qb 0 _ _ _ (row_belowQ hq3.heap hb'), cell_of_row W b1 1 _ _ _ (row_belowQ r3 hb'), cell_of_row W b1 2 _ _ _ (row_belowQ r3 hb')⟩)
  have hd3 := hx.below hbw3
  have hpa := paths_any l A c W3.drew (hd3.delsQ.below (Below.refl _ _).drew) hs
  rw [hml] at hpa
  have HPA := Lib.hid hpa
  have HPO := Lib.hid (show 0 < (uniqP (pathsX l)).length by
    obtain ⟨y, hy⟩ : ∃ y, l[0]? = some y := ⟨_, List.getElem?_eq_getElem hx0⟩
    exact List.length_pos_iff_exists_mem.2 ⟨y.p.data.toList, (uniq_mem _ _).2 (List.mem_map_of_mem (List.mem_of_getElem? hy))⟩)
  have HPZ := Lib.hid (show ∀ p ∈ uniqP (pathsX l), p.length ≤ 1000000 from fun p hp => by
    obtain ⟨y, hy, rfl⟩ := List.mem_map.1 ((uniq_mem _ p).1 hp)
    have h1 := (hs.2 y hy).1
    have h2 : y.p.data.toList.length = y.p.size := Array.length_toList
    omega)
  have HPN := Lib.hid (show (uniqP (pathsX l)).length ≤ 100000 by
    have h1 := uniq_len (pathsX l)
    have h2 : (pathsX l).length = l.length := by unfold pathsX; simp
    have := hs.1
    omega)
  obtain ⟨pl, hpl⟩ : ∃ pl, ((uniqP (pathsX l)).filter fun p => !decide ((M p : Int) ≤ bs)).length = pl := ⟨_, rfl⟩
  have hlate := late_len M bs l
  rw [hpl] at hlate
  have HPL := Lib.hid hpl
  have HLATE := Lib.hid hlate
  obtain ⟨y0, y1, y2, y3, y4, y5, y6, y7⟩ := aa.facts
  have z0 : W2.cell? ⟨b1, 0, none⟩ = some (.int .i64 id) := cell_of_row W2 b1 0 _ _ _ r2
  have HH3 := Lib.hid hh3
  have HHW := Lib.hid hh
  have HQW := Lib.hid h
  have HDW := Lib.hid hx
  have HQ3 := Lib.hid hq3
  have HD3 := Lib.hid hd3
  have HBW3 := Lib.hid hbw3
  have HS := Lib.hid hs
  have A3 := Lib.hid a3
  have A23 := Lib.hid a23
  have R3 := Lib.hid r3
  have HW1 := Lib.hid hW1
  have HW2 := Lib.hid hW2
  have HWA := Lib.hid hWa
  have HW3 := Lib.hid hW3
  have HB1 := Lib.hid hb1
  have HS2 := Lib.hid s2
  have HM := Lib.hid hm
  have H0 := Lib.hid h0
  have HML := Lib.hid hml
  have hw3s : b1 + 3 ≤ W3.heap.size := by
    have := (Array.getElem?_eq_some_iff.1 a3).1
    omega
  simp only [noA] at y0 y1 y2 y3
  rw [hml]
  clear h hh hx hs hm h0 hml hb1 hW1 hW2 hWa hW3 s1 s2 r1 hb2 r2 a2 hba aa a3 g3 hbw2 hb3 hbw3 r3 a23 hq3 hh3 hd3 hpa hpl hlate
  go_enter Tryd.func33, Tryd.ntmps33
  go_upto_region 1 with fail
  rw [HB1.out, HW1.out, HW2.out]
  have hs2' := HS2.out
  have hWa := HWA.out
  go_upto_region 6 with fail
  rw [HW3.out]
  clear y0 y1 y2 y3 y4 y5 y6 y7 z0 hs2' hWa
  refine wp_region_held_drew (S := (fun w' => w'.cell? ⟨qb, 0, none⟩ = some (.pointer (some ⟨hb, 0, none⟩)) ∧ w'.cell? ⟨b1, 1, none⟩ = some (.int .i64 bs) ∧ w'.cell? ⟨b1, 2, none⟩ = some (.slice A m c))) (by kernel_rfl) ⟨X3.1, X3.2.1, X3.2.2⟩ (fun hHeld => ?_)
  refine wpAnyH_take (i := 0) (v := ?vs0) rfl (by kernel_rfl) (by kernel_rfl) (by kernel_rfl) (fun _ _ _ h => h) (Or.inl ⟨by rfl, ?ys0⟩) (by assumption) ?rs0
  case ys0 =>
    intro w hSw
    (try dsimp only at hSw)
    go_simp
    first | done | with_reducible rfl
  try simp only [Act.put, List.getElem_toArray, List.getElem_cons_zero, List.setIfInBounds_toArray, List.set_cons_zero, List.set_cons_succ]
  refine wpAnyH_take (i := 1) (v := ?vs1) rfl (by kernel_rfl) (by kernel_rfl) (by kernel_rfl) (fun _ _ _ h => h) (Or.inl ⟨by rfl, ?ys1⟩) (by assumption) ?rs1
  case ys1 =>
    intro w hSw
    (try dsimp only at hSw)
    go_simp
    first | done | with_reducible rfl
  try simp only [Act.put, List.getElem_toArray, List.getElem_cons_zero, List.getElem_cons_succ, List.setIfInBounds_toArray, List.set_cons_zero, List.set_cons_succ]
  refine wpAnyH_take (i := 2) (v := ?vs2) rfl (by kernel_rfl) (by kernel_rfl) (by kernel_rfl) (fun _ _ _ h => h) (Or.inl ⟨by rfl, ?ys2⟩) (by assumption) ?rs2
  case ys2 =>
    intro w hSw
    (try dsimp only at hSw)
    go_simp
    first | done | with_reducible rfl
  try simp only [Act.put, List.getElem_toArray, List.getElem_cons_zero, List.getElem_cons_succ, List.setIfInBounds_toArray, List.set_cons_zero, List.set_cons_succ]
  refine wpAnyH_take (i := 3) (v := ?vs3) rfl (by kernel_rfl) (by kernel_rfl) (by kernel_rfl) (fun _ _ _ h => h) (Or.inl ⟨by rfl, ?ys3⟩) (by assumption) ?rs3
  case ys3 =>
    intro w hSw
    (try dsimp only at hSw)
    go_simp
    first | done | with_reducible rfl
  try simp only [Act.put, List.getElem_toArray, List.getElem_cons_zero, List.getElem_cons_succ, List.setIfInBounds_toArray, List.set_cons_zero, List.set_cons_succ]
  refine wpAnyH_take (i := 4) (v := ?vs4) rfl (by kernel_rfl) (by kernel_rfl) (by kernel_rfl) (fun _ _ _ h => h) (Or.inl ⟨by rfl, ?ys4⟩) (by assumption) ?rs4
  case ys4 =>
    intro w hSw
    (try dsimp only at hSw)
    go_simp
    first | done | with_reducible rfl
  try simp only [Act.put, List.getElem_toArray, List.getElem_cons_zero, List.getElem_cons_succ, List.setIfInBounds_toArray, List.set_cons_zero, List.set_cons_succ]
  refine wpAnyH_take (i := 5) (v := ?vs5) rfl (by kernel_rfl) (by kernel_rfl) (by kernel_rfl) (fun _ _ _ h => h) (Or.inl ⟨by rfl, ?ys5⟩) (by assumption) ?rs5
  case ys5 =>
    intro w hSw
    (try dsimp only at hSw)
    go_simp
    first | done | with_reducible rfl
  try simp only [Act.put, List.getElem_toArray, List.getElem_cons_zero, List.getElem_cons_succ, List.setIfInBounds_toArray, List.set_cons_zero, List.set_cons_succ]
  refine wpAnyH_take (i := 6) (v := ?vs6) rfl (by kernel_rfl) (by kernel_rfl) (by kernel_rfl) (fun _ _ _ h => h) (Or.inl ⟨by rfl, ?ys6⟩) (by assumption) ?rs6
  case ys6 =>
    intro w hSw
    (try dsimp only at hSw)
    go_simp
    first | done | with_reducible rfl
  try simp only [Act.put, List.getElem_toArray, List.getElem_cons_zero, List.getElem_cons_succ, List.setIfInBounds_toArray, List.set_cons_zero, List.set_cons_succ]
  refine wpAnyH_take (i := 7) (v := ?vs7) rfl (by kernel_rfl) (by kernel_rfl) (by kernel_rfl) (fun _ _ _ h => h) (Or.inl ⟨by rfl, ?ys7⟩) (by assumption) ?rs7
  case ys7 =>
    intro w hSw
    (try dsimp only at hSw)
    go_simp
    first | done | with_reducible rfl
  try simp only [Act.put, List.getElem_toArray, List.getElem_cons_zero, List.getElem_cons_succ, List.setIfInBounds_toArray, List.set_cons_zero, List.set_cons_succ]
  refine wpAnyH_take (i := 8) (v := ?vs8) rfl (by kernel_rfl) (by kernel_rfl) (by kernel_rfl) (fun _ _ _ h => h) (Or.inl ⟨by rfl, ?ys8⟩) (by assumption) ?rs8
  case ys8 =>
    intro w hSw
    (try dsimp only at hSw)
    go_simp
    first | done | with_reducible rfl
  try simp only [Act.put, List.getElem_toArray, List.getElem_cons_zero, List.getElem_cons_succ, List.setIfInBounds_toArray, List.set_cons_zero, List.set_cons_succ]
  refine wpAnyH_ready (rs := [9]) (by kernel_rfl) (by simp) ?_
  refine AllReadyH.cons rfl (fun K hK => ?_) AllReadyH.nil
  go_simp
  refine HPA.out.mono ?_
  rintro e w4 ⟨v4, rfl, ho4, hb4⟩
  have hb4' : Below W3.heap.size W3 w4 := (Below.refl _ _).drew.trans hb4
  obtain ⟨g4, c4, rfl⟩ := names_some ho4 HPO.out
  have HSI := Lib.hid (hsince_many w4 (HH3.out.below hb4') bs (uniqP (pathsX l)) g4 c4 (names_at ho4) HPO.out HPZ.out HPN.out)
  have hHeld := HHE.out w4 hb4'
  have HB4 := Lib.hid hb4'
  clear ho4 hb4 hb4'
  refine hK.out _ _ hHeld (fun hHeld => ?_)
  clear hK K
  try simp only [Act.put, List.getElem_toArray, List.getElem_cons_zero, List.getElem_cons_succ, List.setIfInBounds_toArray, List.set_cons_zero, List.set_cons_succ]
  refine wpAnyH_ready (rs := [10]) (by kernel_rfl) (by simp) ?_
  refine AllReadyH.cons rfl (fun K hK => ?_) AllReadyH.nil
  go_simp
  refine HSI.out.mono ?_
  rintro e w5 ⟨A5, c5, rfl, hb5⟩
  rw [HPL.out]
  have hb5' := HB4.out.trans (hb5.mono HB4.out.size)
  have hHeld := HHE.out w5 hb5'
  have HB5 := Lib.hid hb5'
  clear hb5 hb5'
  refine hK.out _ _ hHeld (fun hHeld => ?_)
  clear hK K
  try simp only [Act.put, List.getElem_toArray, List.getElem_cons_zero, List.getElem_cons_succ, List.setIfInBounds_toArray, List.set_cons_zero, List.set_cons_succ]
  refine wpAnyH_take (i := 11) (v := ?vs11) rfl (by kernel_rfl) (by kernel_rfl) (by kernel_rfl) (fun _ _ _ h => h) (Or.inl ⟨by rfl, ?ys11⟩) (by assumption) ?rs11
  case ys11 =>
    intro w hSw
    (try dsimp only at hSw)
    go_simp
    first | done | with_reducible rfl
  try simp only [Act.put, List.getElem_toArray, List.getElem_cons_zero, List.getElem_cons_succ, List.setIfInBounds_toArray, List.set_cons_zero, List.set_cons_succ]
  refine wpAnyH_take (i := 12) (v := ?vs12) rfl (by kernel_rfl) (by kernel_rfl) (by kernel_rfl) (fun _ _ _ h => h) (Or.inl ⟨by rfl, ?ys12⟩) (by assumption) ?rs12
  case ys12 =>
    intro w hSw
    (try dsimp only at hSw)
    go_simp
    first | done | with_reducible rfl
  try simp only [Act.put, List.getElem_toArray, List.getElem_cons_zero, List.getElem_cons_succ, List.setIfInBounds_toArray, List.set_cons_zero, List.set_cons_succ]
  refine wpAnyH_take (i := 13) (v := ?vs13) rfl (by kernel_rfl) (by kernel_rfl) (by kernel_rfl) (fun _ _ _ h => h) (Or.inl ⟨by rfl, ?ys13⟩) (by assumption) ?rs13
  case ys13 =>
    intro w hSw
    (try dsimp only at hSw)
    go_simp
    first | done | with_reducible rfl
  try simp only [Act.put, List.getElem_toArray, List.getElem_cons_zero, List.getElem_cons_succ, List.setIfInBounds_toArray, List.set_cons_zero, List.set_cons_succ]
  refine wpAnyH_done (by kernel_rfl) ?_ _
  clear hHeld
  have a5 : AnsB w5 (b1 + 2) ⟨id, 0, 0, 0⟩ := row_belowQ A3.out HB5.out
  have a25 : AnsB w5 (b1 + 1) noA := row_belowQ A23.out HB5.out
  obtain ⟨y0, y1, y2, y3, y4, y5, y6, y7⟩ := a5.facts
  simp only at y0 y1 y2 y3
  have hb5s := HB5.out.size
  have hwbs := HBW3.out.size
  have HA5 := Lib.hid a5
  have HA25 := Lib.hid a25
  clear a5 a25
  by_cases hpl0 : 0 < pl
  · have hlt : lateQ M bs l = true := by rw [← HLATE.out]; exact decide_eq_true hpl0
    have HLT := Lib.hid hlt
    clear hlt
    rw [decide_eq_true hpl0]
    go_upto_region 10 with fail
    obtain ⟨W6, hW6⟩ : ∃ W, w5.setCell ⟨b1 + 2, 1, none⟩ (.int .i64 2) = W := ⟨_, rfl⟩
    have a6 := HA5.out.setK 2
    have g6 := set1_grown w5 (b1 + 2) 1 (.int .i64 2)
    rw [hW6] at a6 g6 ⊢
    have a26 : AnsB W6 (b1 + 1) noA := (g6.block (b1 + 1) (by omega) (by simp)).trans HA25.out
    clear y0 y1 y2 y3 y4 y5 y6 y7 hW6
    obtain ⟨y0, y1, y2, y3, -, -, -, -⟩ := a6.facts
    obtain ⟨x0, x1, x2, x3, x4, x5, x6, x7⟩ := a26.facts
    simp only [noA] at y0 y1 y2 y3 x0 x1 x2 x3
    have A26 := Lib.hid a26
    have G6 := Lib.hid g6
    clear a6 a26 g6
    go_wp2_with fail
    obtain ⟨a9, g9⟩ := A26.out.store ⟨id, 2, 0, 0⟩
    refine bodyPost_ret (results_cell_row rfl _ _ (b1 + 1) 36 _ (0, 0) _ rfl a9 Tryd.underlying36 rfl (by kernel_rfl)) rfl ?_
    refine .inl ⟨⟨id, 2, 0, 0⟩, rfl, rfl, ?_, .inl ⟨HLT.out, rfl⟩⟩
    exact HBW3.out.trans (((HB5.out.mono HBW3.out.size).grown G6.out (by omega) (fun j e => by cases e; have := HB1.out; omega)).grown g9 (by have := HB1.out; have := G6.out.size; omega) (fun j e => by cases e; have := HB1.out; omega))
  · have hlt : lateQ M bs l = false := by rw [← HLATE.out]; exact decide_eq_false hpl0
    have HLT := Lib.hid hlt
    clear hlt
    rw [decide_eq_false hpl0]
    cases pass with
    | false =>
      go_upto_region 10 with fail
      obtain ⟨W6, hW6⟩ : ∃ W, w5.setCell ⟨b1 + 2, 1, none⟩ (.int .i64 3) = W := ⟨_, rfl⟩
      have a6 := HA5.out.setK 3
      have g6 := set1_grown w5 (b1 + 2) 1 (.int .i64 3)
      rw [hW6] at a6 g6 ⊢
      have a26 : AnsB W6 (b1 + 1) noA := (g6.block (b1 + 1) (by omega) (by simp)).trans HA25.out
      clear y0 y1 y2 y3 y4 y5 y6 y7 hW6
      obtain ⟨y0, y1, y2, y3, -, -, -, -⟩ := a6.facts
      obtain ⟨x0, x1, x2, x3, x4, x5, x6, x7⟩ := a26.facts
      simp only [noA] at y0 y1 y2 y3 x0 x1 x2 x3
      have A26 := Lib.hid a26
      have G6 := Lib.hid g6
      clear a6 a26 g6
      go_wp2_with fail
      obtain ⟨a9, g9⟩ := A26.out.store ⟨id, 3, 0, 0⟩
      refine bodyPost_ret (results_cell_row rfl _ _ (b1 + 1) 36 _ (0, 0) _ rfl a9 Tryd.underlying36 rfl (by kernel_rfl)) rfl ?_
      refine .inl ⟨⟨id, 3, 0, 0⟩, rfl, rfl, ?_, .inr (.inl ⟨HLT.out, rfl, rfl⟩)⟩
      exact HBW3.out.trans (((HB5.out.mono HBW3.out.size).grown G6.out (by omega) (fun j e => by cases e; have := HB1.out; omega)).grown g9 (by have := HB1.out; have := G6.out.size; omega) (fun j e => by cases e; have := HB1.out; omega))
    | true =>
      go_upto_region 3 with fail
      obtain ⟨W6, hW6⟩ : ∃ W, w5.setCell ⟨b1 + 2, 1, none⟩ (.int .i64 1) = W := ⟨_, rfl⟩
      have a6 := HA5.out.setK 1
      have g6 := set1_grown w5 (b1 + 2) 1 (.int .i64 1)
      rw [hW6] at a6 g6 ⊢
      have a26 : AnsB W6 (b1 + 1) noA := (g6.block (b1 + 1) (by omega) (by simp)).trans HA25.out
      have hb6 : Below w.heap.size w W6 := (HBW3.out.trans (HB5.out.mono HBW3.out.size)).grown g6 (by omega) (fun j e => by cases e; have := HB1.out; omega)
      have hr6 : ReqB W6 b1 (.int .i64 id) (.int .i64 bs) (.slice A m c) := row_grownQ (row_belowQ R3.out HB5.out) g6 (by omega)
      have hq6 := HQW.out.below hb6
      have hh6 := HHW.out.below hb6
      have hd6 := HDW.out.below hb6
      have hqn : qb ≠ b1 + 2 := by have := (Array.getElem?_eq_some_iff.1 HQW.out.heap).1; have := HB1.out; omega
      have hcm := hcommit_any w0 hb n nm M nv cv mb k D H l A c W6.drew (hh6.below (Below.refl _ _).drew) ((H0.out.trans (hb6.mono H0.out.size)).drew) hn (DeltasAt.keeps (base := w0.heap.size) (hd6.below (Below.refl _ _).drew) (hh6.below (Below.refl _ _).drew).heap) HS.out HM.out
      rw [HML.out] at hcm
      have X6 : W6.cell? ⟨qb, 0, none⟩ = some (.pointer (some ⟨hb, 0, none⟩)) ∧ W6.cell? ⟨b1, 1, none⟩ = some (.int .i64 bs) ∧ W6.cell? ⟨b1, 2, none⟩ = some (.slice A m c) := ⟨cell_of_row W6 qb 0 _ _ _ hq6.heap, cell_of_row W6 b1 1 _ _ _ hr6, cell_of_row W6 b1 2 _ _ _ hr6⟩
      have HCM := Lib.hid hcm
      have HQ6 := Lib.hid (show QueueAt w0.heap.size W6.drew qb hb ab room v R L from hq6.below (Below.refl _ _).drew)
      have HR6 := Lib.hid (show ReqB W6.drew b1 (.int .i64 id) (.int .i64 bs) (.slice A m c) from hr6)
      have HA6 := Lib.hid (show AnsB W6.drew (b1 + 2) ⟨id, 1, 0, 0⟩ from a6)
      have HA26 := Lib.hid (show AnsB W6.drew (b1 + 1) noA from a26)
      have HB6 := Lib.hid hb6
      clear y0 y1 y2 y3 y4 y5 y6 y7 hW6 a6 g6 a26 hb6 hr6 hq6 hh6 hd6 hcm
      refine wp_region_held_drew (S := (fun w' => w'.cell? ⟨qb, 0, none⟩ = some (.pointer (some ⟨hb, 0, none⟩)) ∧ w'.cell? ⟨b1, 1, none⟩ = some (.int .i64 bs) ∧ w'.cell? ⟨b1, 2, none⟩ = some (.slice A m c))) (by kernel_rfl) ⟨X6.1, X6.2.1, X6.2.2⟩ (fun hHeld => ?_)
      refine wpAnyH_take (i := 0) (v := ?vt0) rfl (by kernel_rfl) (by kernel_rfl) (by kernel_rfl) (fun _ _ _ h => h) (Or.inl ⟨by rfl, ?yt0⟩) (by assumption) ?rt0
      case yt0 =>
        intro w hSw
        (try dsimp only at hSw)
        go_simp
        first | done | with_reducible rfl
      try simp only [Act.put, List.getElem_toArray, List.getElem_cons_zero, List.setIfInBounds_toArray, List.set_cons_zero, List.set_cons_succ]
      refine wpAnyH_take (i := 1) (v := ?vt1) rfl (by kernel_rfl) (by kernel_rfl) (by kernel_rfl) (fun _ _ _ h => h) (Or.inl ⟨by rfl, ?yt1⟩) (by assumption) ?rt1
      case yt1 =>
        intro w hSw
        (try dsimp only at hSw)
        go_simp
        first | done | with_reducible rfl
      try simp only [Act.put, List.getElem_toArray, List.getElem_cons_zero, List.getElem_cons_succ, List.setIfInBounds_toArray, List.set_cons_zero, List.set_cons_succ]
      refine wpAnyH_take (i := 2) (v := ?vt2) rfl (by kernel_rfl) (by kernel_rfl) (by kernel_rfl) (fun _ _ _ h => h) (Or.inl ⟨by rfl, ?yt2⟩) (by assumption) ?rt2
      case yt2 =>
        intro w hSw
        (try dsimp only at hSw)
        go_simp
        first | done | with_reducible rfl
      try simp only [Act.put, List.getElem_toArray, List.getElem_cons_zero, List.getElem_cons_succ, List.setIfInBounds_toArray, List.set_cons_zero, List.set_cons_succ]
      refine wpAnyH_take (i := 3) (v := ?vt3) rfl (by kernel_rfl) (by kernel_rfl) (by kernel_rfl) (fun _ _ _ h => h) (Or.inl ⟨by rfl, ?yt3⟩) (by assumption) ?rt3
      case yt3 =>
        intro w hSw
        (try dsimp only at hSw)
        go_simp
        first | done | with_reducible rfl
      try simp only [Act.put, List.getElem_toArray, List.getElem_cons_zero, List.getElem_cons_succ, List.setIfInBounds_toArray, List.set_cons_zero, List.set_cons_succ]
      refine wpAnyH_take (i := 4) (v := ?vt4) rfl (by kernel_rfl) (by kernel_rfl) (by kernel_rfl) (fun _ _ _ h => h) (Or.inl ⟨by rfl, ?yt4⟩) (by assumption) ?rt4
      case yt4 =>
        intro w hSw
        (try dsimp only at hSw)
        go_simp
        first | done | with_reducible rfl
      try simp only [Act.put, List.getElem_toArray, List.getElem_cons_zero, List.getElem_cons_succ, List.setIfInBounds_toArray, List.set_cons_zero, List.set_cons_succ]
      refine wpAnyH_take (i := 5) (v := ?vt5) rfl (by kernel_rfl) (by kernel_rfl) (by kernel_rfl) (fun _ _ _ h => h) (Or.inl ⟨by rfl, ?yt5⟩) (by assumption) ?rt5
      case yt5 =>
        intro w hSw
        (try dsimp only at hSw)
        go_simp
        first | done | with_reducible rfl
      try simp only [Act.put, List.getElem_toArray, List.getElem_cons_zero, List.getElem_cons_succ, List.setIfInBounds_toArray, List.set_cons_zero, List.set_cons_succ]
      refine wpAnyH_take (i := 6) (v := ?vt6) rfl (by kernel_rfl) (by kernel_rfl) (by kernel_rfl) (fun _ _ _ h => h) (Or.inl ⟨by rfl, ?yt6⟩) (by assumption) ?rt6
      case yt6 =>
        intro w hSw
        (try dsimp only at hSw)
        go_simp
        first | done | with_reducible rfl
      try simp only [Act.put, List.getElem_toArray, List.getElem_cons_zero, List.getElem_cons_succ, List.setIfInBounds_toArray, List.set_cons_zero, List.set_cons_succ]
      refine wpAnyH_ready (rs := [7]) (by kernel_rfl) (by simp) ?_
      refine AllReadyH.cons rfl (fun K hK => ?_) AllReadyH.nil
      go_simp
      refine HCM.out.mono ?_
      rintro e w7 hp7
      obtain ⟨rv, ev, rfl, hk7, hp7⟩ := commit_ends hp7
      have hq7 : w7.heap[qb]? = _ := (hk7 qb _ _ (by decide) HQ6.out.heap).trans HQ6.out.heap
      have hr7 : ReqB w7 b1 (.int .i64 id) (.int .i64 bs) (.slice A m c) := (hk7 b1 _ _ (by decide) HR6.out).trans HR6.out
      have ha7 : AnsB w7 (b1 + 2) ⟨id, 1, 0, 0⟩ := (hk7 (b1 + 2) _ _ (by decide) HA6.out).trans HA6.out
      have ha27 : AnsB w7 (b1 + 1) noA := (hk7 (b1 + 1) _ _ (by decide) HA26.out).trans HA26.out
      have hHeld := (show _ ∧ _ ∧ _ from ⟨cell_of_row w7 qb 0 _ _ _ hq7, cell_of_row w7 b1 1 _ _ _ hr7, cell_of_row w7 b1 2 _ _ _ hr7⟩)
      obtain ⟨x0, x1, x2, x3, x4, x5, x6, x7⟩ := ha7.facts
      simp only at x0 x1 x2 x3
      have HP7 := Lib.hid hp7
      have HQ7 := Lib.hid hq7
      have HR7 := Lib.hid hr7
      have HA7 := Lib.hid ha7
      have HA27 := Lib.hid ha27
      clear hk7 hp7 hq7 hr7 ha7 ha27
      refine hK.out _ _ hHeld (fun hHeld => ?_)
      clear hK K
      try simp only [Act.put, List.getElem_toArray, List.getElem_cons_zero, List.getElem_cons_succ, List.setIfInBounds_toArray, List.set_cons_zero, List.set_cons_succ]
      refine wpAnyH_take (i := 8) (v := ?vt8) rfl (by kernel_rfl) (by kernel_rfl) (by kernel_rfl) (fun _ _ _ h => h) (Or.inl ⟨by rfl, ?yt8⟩) (by assumption) ?rt8
      case yt8 =>
        intro w hSw
        (try dsimp only at hSw)
        go_simp
        first | done | with_reducible rfl
      try simp only [Act.put, List.getElem_toArray, List.getElem_cons_zero, List.getElem_cons_succ, List.setIfInBounds_toArray, List.set_cons_zero, List.set_cons_succ]
      refine wpAnyH_take (i := 9) (v := ?vt9) rfl (by kernel_rfl) (by kernel_rfl) (by kernel_rfl) (fun _ _ _ h => h) (Or.inl ⟨by rfl, ?yt9⟩) (by assumption) ?rt9
      case yt9 =>
        intro w hSw
        (try dsimp only at hSw)
        go_simp
        first | done | with_reducible rfl
      try simp only [Act.put, List.getElem_toArray, List.getElem_cons_zero, List.getElem_cons_succ, List.setIfInBounds_toArray, List.set_cons_zero, List.set_cons_succ]
      refine wpAnyH_take (i := 10) (v := ?vt10) rfl (by kernel_rfl) (by kernel_rfl) (by kernel_rfl) (fun _ _ _ h => h) (Or.inl ⟨by rfl, ?yt10⟩) (by assumption) ?rt10
      case yt10 =>
        intro w hSw
        (try dsimp only at hSw)
        go_simp
        first | done | with_reducible rfl
      try simp only [Act.put, List.getElem_toArray, List.getElem_cons_zero, List.getElem_cons_succ, List.setIfInBounds_toArray, List.set_cons_zero, List.set_cons_succ]
      refine wpAnyH_take (i := 11) (v := ?vt11) rfl (by kernel_rfl) (by kernel_rfl) (by kernel_rfl) (fun _ _ _ h => h) (Or.inl ⟨by rfl, ?yt11⟩) (by assumption) ?rt11
      case yt11 =>
        intro w hSw
        (try dsimp only at hSw)
        go_simp
        first | done | with_reducible rfl
      try simp only [Act.put, List.getElem_toArray, List.getElem_cons_zero, List.getElem_cons_succ, List.setIfInBounds_toArray, List.set_cons_zero, List.set_cons_succ]
      refine wpAnyH_ready (rs := [12]) (by kernel_rfl) (by simp) ?_
      refine AllReadyH.cons rfl (fun K hK => ?_) AllReadyH.nil
      go_simp
      obtain ⟨W8, hW8⟩ : ∃ W, w7.setCell ⟨b1 + 2, 2, none⟩ (.int .i64 rv) = W := ⟨_, rfl⟩
      have a8 := HA7.out.setR rv
      have g8 := set1_grown w7 (b1 + 2) 2 (.int .i64 rv)
      rw [hW8] at a8 g8 ⊢
      have hHeld := (show _ ∧ _ ∧ _ from ⟨cell_of_row W8 qb 0 _ _ _ (row_grownQ HQ7.out g8 (by omega)), cell_of_row W8 b1 1 _ _ _ (row_grownQ HR7.out g8 (by omega)), cell_of_row W8 b1 2 _ _ _ (row_grownQ HR7.out g8 (by omega))⟩)
      clear x0 x1 x2 x3 x4 x5 x6 x7 hW8
      obtain ⟨x0, x1, x2, x3, x4, x5, x6, x7⟩ := a8.facts
      simp only at x0 x1 x2 x3
      have A8 := Lib.hid a8
      have G8 := Lib.hid g8
      clear a8 g8
      refine hK.out _ _ hHeld (fun hHeld => ?_)
      clear hK K
      try simp only [Act.put, List.getElem_toArray, List.getElem_cons_zero, List.getElem_cons_succ, List.setIfInBounds_toArray, List.set_cons_zero, List.set_cons_succ]
      refine wpAnyH_take (i := 13) (v := ?vt13) rfl (by kernel_rfl) (by kernel_rfl) (by kernel_rfl) (fun _ _ _ h => h) (Or.inl ⟨by rfl, ?yt13⟩) (by assumption) ?rt13
      case yt13 =>
        intro w hSw
        (try dsimp only at hSw)
        go_simp
        first | done | with_reducible rfl
      try simp only [Act.put, List.getElem_toArray, List.getElem_cons_zero, List.getElem_cons_succ, List.setIfInBounds_toArray, List.set_cons_zero, List.set_cons_succ]
      refine wpAnyH_ready (rs := [14]) (by kernel_rfl) (by simp) ?_
      refine AllReadyH.cons rfl (fun K hK => ?_) AllReadyH.nil
      go_simp
      obtain ⟨W9, hW9⟩ : ∃ W, W8.setCell ⟨b1 + 2, 3, none⟩ (.int .i64 ev) = W := ⟨_, rfl⟩
      have a9 := A8.out.setE ev
      have g9 := set1_grown W8 (b1 + 2) 3 (.int .i64 ev)
      rw [hW9] at a9 g9 ⊢
      have hHeld := (show _ ∧ _ ∧ _ from ⟨cell_of_row W9 qb 0 _ _ _ (row_grownQ (row_grownQ HQ7.out G8.out (by omega)) g9 (by omega)), cell_of_row W9 b1 1 _ _ _ (row_grownQ (row_grownQ HR7.out G8.out (by omega)) g9 (by omega)), cell_of_row W9 b1 2 _ _ _ (row_grownQ (row_grownQ HR7.out G8.out (by omega)) g9 (by omega))⟩)
      clear x0 x1 x2 x3 x4 x5 x6 x7 hW9
      have A9 := Lib.hid a9
      have G9 := Lib.hid g9
      clear a9 g9
      refine hK.out _ _ hHeld (fun hHeld => ?_)
      clear hK K
      try simp only [Act.put, List.getElem_toArray, List.getElem_cons_zero, List.getElem_cons_succ, List.setIfInBounds_toArray, List.set_cons_zero, List.set_cons_succ]
      refine wpAnyH_done (by kernel_rfl) ?_ _
      clear hHeld
      have hg8s := G8.out.size
      have hg9s := G9.out.size
      have hb6s := HB6.out.size
      have hb1v := HB1.out
      have a29 : AnsB W9 (b1 + 1) noA := row_grownQ (row_grownQ HA27.out G8.out (by omega)) G9.out (by omega)
      have HA29 := Lib.hid a29
      clear a29
      rcases HP7.out with ⟨rfl, hev, herr, hb7⟩ | ⟨rfl, rfl, nm', nv', cv', k', D', G', hap, hH7, hb7, hkr7, hkm7⟩
      · have herr' : applyT (flsX nm) (l.map DX.dl) = .error ev := by
          rcases herr with e | e
          · rw [e] at hx0; exact absurd hx0 (by simp)
          · exact e
        have HERR := Lib.hid herr'
        have HB7 := Lib.hid (show Below W6.heap.size W6 w7 from (Below.refl _ _).drew.trans hb7)
        have hb7s := HB7.out.size
        have hne : (ev != 0) = true := by simpa using hev
        have HEV := Lib.hid hev
        obtain ⟨x0, x1, x2, x3, x4, x5, x6, x7⟩ := A9.out.facts
        simp only at x0 x1 x2 x3
        clear herr herr' hb7 hev
        go_upto_region 10 with fail
        obtain ⟨Wk, hWk⟩ : ∃ W, W9.setCell ⟨b1 + 2, 1, none⟩ (.int .i64 4) = W := ⟨_, rfl⟩
        have ak := A9.out.setK 4
        have gk := set1_grown W9 (b1 + 2) 1 (.int .i64 4)
        rw [hWk] at ak gk ⊢
        have a2k : AnsB Wk (b1 + 1) noA := row_grownQ HA29.out gk (by omega)
        clear x0 x1 x2 x3 x4 x5 x6 x7 hWk
        obtain ⟨y0, y1, y2, y3, -, -, -, -⟩ := ak.facts
        obtain ⟨x0, x1, x2, x3, x4, x5, x6, x7⟩ := a2k.facts
        simp only [noA] at y0 y1 y2 y3 x0 x1 x2 x3
        have A2K := Lib.hid a2k
        have GK := Lib.hid gk
        clear ak a2k gk
        go_wp2_with fail
        obtain ⟨a9, g9⟩ := A2K.out.store ⟨id, 4, 0, ev⟩
        refine bodyPost_ret (results_cell_row rfl _ _ (b1 + 1) 36 _ (0, 0) _ rfl a9 Tryd.underlying36 rfl (by kernel_rfl)) rfl ?_
        have hgks := GK.out.size
        have hbz : Below w.heap.size w Wk := (((HB6.out.trans (HB7.out.mono hb6s)).grown G8.out (by omega) (fun j e => by cases e; omega)).grown G9.out (by omega) (fun j e => by cases e; omega)).grown GK.out (by omega) (fun j e => by cases e; omega)
        exact .inl ⟨⟨id, 4, 0, ev⟩, rfl, rfl, hbz.grown g9 (by omega) (fun j e => by cases e; omega), .inr (.inr ⟨HLT.out, rfl, ev, HEV.out, HERR.out, rfl⟩)⟩
      · have HAP := Lib.hid hap
        have HH7 := Lib.hid hH7
        have HB7 := Lib.hid (show Below w0.heap.size W6 w7 from ((below_drew0 W6).mono (by have := H0.out.size; omega)).trans hb7)
        have HKR7 := Lib.hid hkr7
        have HKM7 := Lib.hid hkm7
        obtain ⟨y0, y1, y2, y3, -, -, -, -⟩ := A9.out.facts
        obtain ⟨x0, x1, x2, x3, x4, x5, x6, x7⟩ := HA29.out.facts
        simp only [noA] at y0 y1 y2 y3 x0 x1 x2 x3
        clear hap hH7 hb7 hkr7 hkm7
        go_wp2_with fail
        obtain ⟨a10, g10⟩ := HA29.out.store ⟨id, 1, ((n + 1 : Nat) : Int), 0⟩
        refine bodyPost_ret (results_cell_row rfl _ _ (b1 + 1) 36 _ (0, 0) _ rfl a10 Tryd.underlying36 rfl (by kernel_rfl)) rfl ?_
        simp only at g10
        have hww := HB6.out.size
        have h0s := H0.out.size
        have hb7s := HB7.out.size
        have last := fun (g : Nat) (hg : g < w.heap.size) (hg7 : g < w7.heap.size) =>
          (g10.block g (by omega) (by simp; omega)).trans ((G9.out.block g (by omega) (by simp; omega)).trans (G8.out.block g hg7 (by simp; omega)))
        refine .inr ⟨HLT.out, rfl, rfl, nm', nv', cv', k', D', G', HAP.out, ?_, ?_, fun g cur t ht _ hg => ?_, fun g es ck hne hg => ?_⟩
        · exact ((HH7.out.turnA HA7.out G8.out).turnA A8.out G9.out).turnA HA29.out g10
        · exact (((((HB6.out.mono h0s).trans HB7.out).grown G8.out (by omega) (fun j e => by cases e; omega)).grown G9.out (by omega) (fun j e => by cases e; omega))).grown g10 (by omega) (fun j e => by cases e; omega)
        · have hgl := (Array.getElem?_eq_some_iff.1 hg).1
          have h6 : W6.heap[g]? = w.heap[g]? := HB6.out.block g hgl
          have h7 : w7.heap[g]? = W6.heap[g]? := HKR7.out g cur t ht (h6.trans hg)
          exact (last g hgl (by omega)).trans (h7.trans h6)
        · have hgl := (Array.getElem?_eq_some_iff.1 hg).1
          have h6 : W6.heap[g]? = w.heap[g]? := HB6.out.block g hgl
          have h7 : w7.heap[g]? = W6.heap[g]? := HKM7.out g es ck hne (h6.trans hg)
          exact (last g hgl (by omega)).trans (h7.trans h6)
end Go.Proofs.YtnkfnmkbfnhmfaaDoor
