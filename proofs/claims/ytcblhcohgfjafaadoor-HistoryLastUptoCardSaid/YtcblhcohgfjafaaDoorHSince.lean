/-
  The program's Since of layer 3 (history), of one path: how many it answers.
-/
import Derived.Test.YtcblhcohgfjafaaDoorHCommit
import Derived.Test.YtcblhcohgfjafaaDoorShelf
import Derived.Deep.RegionHeld3
import Derived.BigQuiet
namespace Go.Proofs.YtcblhcohgfjafaaDoor
open Go Go.RowKit Go.Shelf Go.Proofs Go.ChangeMaps Go.Maps Go.WideMaps

/-- Texts that may be keys. -/
abbrev KS : Type := { s : ByteArray // s.size ≤ maxLen }
instance : Inhabited KS := ⟨⟨⟨#[]⟩, Nat.zero_le _⟩⟩
def encKS (s : KS) : Value := .string s.1

set_option maxRecDepth 100000 in
set_option maxHeartbeats 4000000 in
theorem hsince1_any (hb mb k B1 B2 : Nat) (D : DataW Unit) (M : Bs → Nat) (r : Int) (s : KS) (W : World) (h2 : W.cell? ⟨hb, 2, none⟩ = some (.map (some mb))) (hmap : MapAt W mb k D) (hr : RevsAt 69 W D M)
    (h3 : W.cell? ⟨B1, 0, none⟩ = some (.pointer (some ⟨hb, 0, none⟩))) (h4 : W.cell? ⟨B2, 0, none⟩ = some (.int .i64 r)) :
    Calls Tryd.prog 34 #[.string s.1, .pointer (some ⟨B1, 0, none⟩), .pointer (some ⟨B2, 0, none⟩)] W fun e w' => e = .returned (.bool (decide ((M s.1.data.toList : Int) ≤ r))) ∧ ∃ q, w' = W.drewN q := by
  go_enter Tryd.func34, Tryd.ntmps34
  go_wp2_with fail
  refine wp_region_held_drew (S := (fun w' => w'.cell? ⟨B1, 0, none⟩ = some (.pointer (some ⟨hb, 0, none⟩)) ∧ w'.cell? ⟨B2, 0, none⟩ = some (.int .i64 r))) (by kernel_rfl) ⟨h3, h4⟩ (fun hHeld => ?_)
  refine wpAnyH_take (i := 0) (v := ?vz0) rfl (by kernel_rfl) (by kernel_rfl) (by kernel_rfl) (fun _ _ _ h => h) (Or.inl ⟨by rfl, ?yz0⟩) (by assumption) ?rz0
  case yz0 =>
    intro w hSw
    (try dsimp only at hSw)
    go_simp
    first | done | with_reducible rfl
  try simp only [Act.put, List.getElem_toArray, List.getElem_cons_zero, List.setIfInBounds_toArray, List.set_cons_zero, List.set_cons_succ]
  refine wpAnyH_take (i := 1) (v := ?vz1) rfl (by kernel_rfl) (by kernel_rfl) (by kernel_rfl) (fun _ _ _ h => h) (Or.inl ⟨by rfl, ?yz1⟩) (by assumption) ?rz1
  case yz1 =>
    intro w hSw
    (try dsimp only at hSw)
    go_simp
    first | done | with_reducible rfl
  try simp only [Act.put, List.getElem_toArray, List.getElem_cons_zero, List.getElem_cons_succ, List.setIfInBounds_toArray, List.set_cons_zero, List.set_cons_succ]
  refine wpAnyH_take (i := 3) (v := ?vz3) rfl (by kernel_rfl) (by kernel_rfl) (by kernel_rfl) (fun _ _ _ h => h) (Or.inl ⟨by rfl, ?yz3⟩) (by assumption) ?rz3
  case yz3 =>
    intro w hSw
    (try dsimp only at hSw)
    go_simp
    first | done | with_reducible rfl
  try simp only [Act.put, List.getElem_toArray, List.getElem_cons_zero, List.getElem_cons_succ, List.setIfInBounds_toArray, List.set_cons_zero, List.set_cons_succ]
  refine wpAnyH_ready (rs := [2]) (by kernel_rfl) (by simp) ?_
  refine AllReadyH.cons rfl (fun K hK => ?_) AllReadyH.nil
  go_simp
  refine (hlast_any hb mb k D M s.1 s.2 W.drew h2 hmap hr).mono ?_
  rintro e w9 ⟨rfl, rfl⟩
  go_wp2_with fail
  refine hK.out _ _ ⟨h3, h4⟩ (fun hHeld => ?_)
  clear hK K
  try simp only [Act.put, List.getElem_toArray, List.getElem_cons_zero, List.getElem_cons_succ, List.setIfInBounds_toArray, List.set_cons_zero, List.set_cons_succ]
  refine wpAnyH_take (i := 4) (v := ?vz4) rfl (by kernel_rfl) (by kernel_rfl) (by kernel_rfl) (fun _ _ _ h => h) (Or.inl ⟨by rfl, ?yz4⟩) (by assumption) ?rz4
  case yz4 =>
    intro w hSw
    (try dsimp only at hSw)
    go_simp
    first | done | with_reducible rfl
  try simp only [Act.put, List.getElem_toArray, List.getElem_cons_zero, List.getElem_cons_succ, List.setIfInBounds_toArray, List.set_cons_zero, List.set_cons_succ]
  refine wpAnyH_take (i := 5) (v := ?vz5) rfl (by kernel_rfl) (by kernel_rfl) (by kernel_rfl) (fun _ _ _ h => h) (Or.inl ⟨by rfl, ?yz5⟩) (by assumption) ?rz5
  case yz5 =>
    intro w hSw
    (try dsimp only at hSw)
    go_simp
    first | done | with_reducible rfl
  try simp only [Act.put, List.getElem_toArray, List.getElem_cons_zero, List.getElem_cons_succ, List.setIfInBounds_toArray, List.set_cons_zero, List.set_cons_succ]
  refine wpAnyH_done (by kernel_rfl) ?_ _
  go_wp2_with fail
  go_ret
  exact ⟨rfl, 1, rfl⟩

theorem heap_putRow {α : Type} [Inhabited α] (enc : α → Value) (w : World) (q blk off : Nat) (d : Array α) (j : Nat) (h : j ≠ blk) : (Sort.putRow enc (Sort.ahead w q) blk off d).heap[j]? = w.heap[j]? := by
  unfold Sort.putRow Sort.mapBlock Sort.ahead
  simp only [Array.getElem?_modify]
  rw [if_neg (fun e => h e.symm)]
theorem heap_sortWorld {α : Type} [Inhabited α] (enc : α → Value) (w : World) (blk off m : Nat) (dk : Array α) (os : Array Obj) (j : Nat) (hj : j < w.heap.size) (h : j ≠ blk) : (sortWorld enc w blk off m dk os).heap[j]? = w.heap[j]? := by
  unfold sortWorld
  rw [Sort.heap_grow_old _ _ (by simpa [Sort.putRow, Sort.mapBlock, Sort.ahead] using hj)]
  exact heap_putRow enc w m blk off dk j h
def SincePost (m : Nat) (w : World) (e : Ending) (w' : World) : Prop := ∃ A c, e = .returned (.slice A m c) ∧ Below w.heap.size w w'
theorem below_putRow {α : Type} [Inhabited α] (enc : α → Value) {B : Nat} {a w : World} (h : Below B a w) (q blk off : Nat) (d : Array α) (hb : B ≤ blk) : Below B a (Sort.putRow enc (Sort.ahead w q) blk off d) :=
  h.trans ⟨rfl, rfl, rfl, by simp [Sort.putRow, Sort.mapBlock, Sort.ahead], fun j hj => heap_putRow enc w q blk off d j (by omega)⟩

set_option maxRecDepth 100000 in
set_option maxHeartbeats 8000000 in
theorem hsince_one {base : Nat} {hb0 n : Nat} {nm : List FX} {M : Bs → Nat} {nv cv : Value} {mb k : Nat} {D : DataW Unit} (w : World) (hH : HistAt base w hb0 n nm M nv cv mb k D) (r : Int) (s : KS) (g c : Nat) (hg : w.cell? ⟨g, 0, none⟩ = some (.string s.1)) :
    Calls Tryd.prog 15 #[.pointer (some ⟨hb0, 0, none⟩), .int .i64 r, .slice (some ⟨g, 0, none⟩) 1 c] w (SincePost (if (M s.1.data.toList : Int) ≤ r then 0 else 1) w) := by
  have hmf : ∀ (fn : Fn) (first cap : Array Value) (w : World), (Instr.makeFunc fn first cap).run Tryd.prog w = .ok (.func fn first cap) w := fun _ _ _ _ => rfl
  have HH := Lib.hid hH
  have HG := Lib.hid hg
  clear hH hg
  obtain ⟨z, hz⟩ : ∃ z, (if (M s.1.data.toList : Int) ≤ r then 0 else 1) = z := ⟨_, rfl⟩
  rw [hz]
  have HZ := Lib.hid hz
  clear hz
  go_enter Tryd.func15, Tryd.ntmps15
  go_wp2_with fail
  obtain ⟨W1, hW1⟩ : ∃ W, w.alloc (.cells #[.pointer (some ⟨hb0, 0, none⟩)] 27) = W := ⟨_, rfl⟩
  have g1 := heap_alloc_new w (.cells #[.pointer (some ⟨hb0, 0, none⟩)] 27)
  have s1 : W1.heap.size = w.heap.size + 1 := by rw [← hW1]; simp
  have b1 := below_box w (.cells #[.pointer (some ⟨hb0, 0, none⟩)] 27)
  rw [hW1] at g1 b1 ⊢
  obtain ⟨W2, hW2⟩ : ∃ W, W1.alloc (.cells #[.int .i64 r] 3) = W := ⟨_, rfl⟩
  have g2 := heap_alloc_new W1 (.cells #[.int .i64 r] 3)
  have b2 := below_box W1 (.cells #[.int .i64 r] 3)
  have s2 : W2.heap.size = w.heap.size + 2 := by rw [← hW2]; simp [s1]
  rw [hW2] at g2 b2 ⊢
  rw [s1] at g2
  have g1 : W2.heap[w.heap.size]? = _ := (b2.block w.heap.size (by omega)).trans g1
  have b12 := b1.trans (b2.mono b1.size)
  refine (Tryd.slices_Clone_string g 0 1 c [s.1] W2 (Nat.le_refl _) (by omega) (fun j hj => ?_)).mono ?_
  · have hj : j = 0 := by simpa using hj
    subst hj
    exact (b12.cell (World.block_lt_of_cell? w (a := ⟨g, 0, none⟩) HG.out)).trans HG.out
  rintro e w3 ⟨v, rfl, hown, hnn, hb3⟩
  obtain ⟨G, cap, cur, rfl, hG, hcur, hcap⟩ : ∃ G cap cur, v = .slice (some ⟨G, 0, none⟩) 1 cap ∧ W2.heap.size ≤ G ∧ w3.heap[G]? = some (.cells cur 9 (0, 0)) ∧ 1 ≤ cap := by
    rcases hown.2 with ⟨h0, _⟩ | ⟨G, cap, cur, h0, h1, h2, h3, _⟩
    · exact absurd h0 hnn
    · exact ⟨G, cap, cur, h0, h1, h2, h3⟩
  have hcell : w3.cell? ⟨G, 0, none⟩ = some (.string s.1) := by
    have h := World.ownsRow.cells hown (g := G) rfl 0 (.string s.1) rfl
    rwa [Go.WideShapes.add_plain] at h
  have g1 : w3.heap[w.heap.size]? = _ := (hb3.block w.heap.size (by omega)).trans g1
  have g2 : w3.heap[w.heap.size + 1]? = _ := (hb3.block (w.heap.size + 1) (by omega)).trans g2
  have hb := b12.trans (hb3.mono b12.size)
  have hH3 := HH.out.below hb
  have eg := enters_of (P := Tryd.prog) Tryd.func34 (by kernel_rfl) rfl
  have hkeep : ∀ (W : World) (x : KS), (∀ j, j < w3.heap.size → j ≠ G → W.heap[j]? = w3.heap[j]?) → FnGives Tryd.prog 34 #[.pointer (some ⟨w.heap.size, 0, none⟩), .pointer (some ⟨w.heap.size + 1, 0, none⟩)] #[encKS x] (.bool (decide ((M x.1.data.toList : Int) ≤ r))) W := fun W x hW => by
    have hlt : ∀ {j : Nat} {o : Obj}, w3.heap[j]? = some o → j < w3.heap.size := fun h => (Array.getElem?_eq_some_iff.1 h).1
    have k1 : W.heap[w.heap.size]? = _ := (hW _ (hlt g1) (by omega)).trans g1
    have k2 : W.heap[w.heap.size + 1]? = _ := (hW _ (hlt g2) (by omega)).trans g2
    have hbl : hb0 < w.heap.size := (Array.getElem?_eq_some_iff.1 HH.out.heap).1
    have k3 : W.heap[hb0]? = _ := (hW hb0 (by have := b12.size; have := hb3.size; omega) (by omega)).trans hH3.heap
    have hmap : MapAt W mb k D := hH3.map.keep (by
      obtain ⟨es, ck, hy⟩ := HH.out.map.block
      have hml := (Array.getElem?_eq_some_iff.1 hy).1
      exact hW mb (by have := b12.size; have := hb3.size; omega) (by omega))
    have hrv : RevsAt 69 W D M := hH3.revs.keep fun q cur2 hq => hW q (hlt hq) (fun e => by
      subst e
      rw [hcur] at hq; cases hq)
    exact hsince1_any hb0 mb k w.heap.size (w.heap.size + 1) D M r x W (cell_of_row W hb0 2 _ _ _ k3) hmap hrv (cell_of_row W w.heap.size 0 _ _ _ k1) (cell_of_row W (w.heap.size + 1) 0 _ _ _ k2)
  have hp : PredAt Tryd.prog 34 #[.pointer (some ⟨w.heap.size, 0, none⟩), .pointer (some ⟨w.heap.size + 1, 0, none⟩)] encKS (fun x => decide ((M x.1.data.toList : Int) ≤ r)) w3 := fun W x hW => hkeep W x (fun j hj _ => hW.block j hj)
  have hpo : PredOver Tryd.prog 34 #[.pointer (some ⟨w.heap.size, 0, none⟩), .pointer (some ⟨w.heap.size + 1, 0, none⟩)] encKS (fun x => decide ((M x.1.data.toList : Int) ≤ r)) G 0 (#[s] : Array KS).size w3 := fun m os dk x _ => hkeep _ x (fun j hj hne => heap_sortWorld encKS w3 G 0 m dk os j hj hne)
  have hHo : Sort.Holds encKS w3 G 0 #[s] := fun j hj => by
    have hj : j = 0 := by simpa using hj
    subst hj
    exact ⟨hcell, by simp [World.frozen?, hcur]⟩
  have hlen : ((#[s] : Array KS).toList.filter fun x => !decide ((M x.1.data.toList : Int) ≤ r)).length = if (M s.1.data.toList : Int) ≤ r then 0 else 1 := by
    by_cases h : (M s.1.data.toList : Int) ≤ r
    · simp [h]
    · simp [h]
  have HD := Lib.hid (Tryd.slices_DeleteFunc encKS (fun _ => rfl) (fun x => decide ((M x.1.data.toList : Int) ≤ r)) 34 #[.pointer (some ⟨w.heap.size, 0, none⟩), .pointer (some ⟨w.heap.size + 1, 0, none⟩)] eg default (fun _ => by kernel_rfl) G 0 cap #[s] w3 hp hpo hHo (by simp) hcap)
  rw [HZ.out] at hlen
  have HL := Lib.hid hlen
  have HB := Lib.hid hb
  have HGE := Lib.hid (show w.heap.size ≤ G by omega)
  clear hp hpo hHo hlen hkeep eg hH3 hb g1 g2 hcell hcur hown hnn hb3 b1 b2 b12 hW1 hW2 s1 s2 hG
  go_wp2_with fail
  refine HD.out.mono ?_
  rintro e w4 ⟨he, q, hq⟩
  rw [HL.out] at he
  have HBZ : Hid (Below w.heap.size w w4) := by
    rw [hq]
    exact below_putRow encKS HB.out q G 0 _ HGE.out
  subst he
  clear hq
  go_wp2_with fail
  go_ret
  exact ⟨_, _, rfl, HBZ.out⟩
end Go.Proofs.YtcblhcohgfjafaaDoor
