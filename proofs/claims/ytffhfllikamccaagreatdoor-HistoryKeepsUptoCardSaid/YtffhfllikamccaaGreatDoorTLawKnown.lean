/-
  A row of changes that a call made, read as an argument; bytes compared as strings; the document's Same of bytes. · The contracts of the document's Long, and of small. · What the laws of layer 2 call: known. · What the laws of layer 2 want besides: sizes of a small tree, where a difference's changes come from. · Two rows of changes, the one behind the other.
-/
import Derived.Test.YtffhfllikamccaaGreatDoorTApply
import Derived.Test.YtffhfllikamccaaGreatDoorTDiffAll
import Derived.Laws.BytesArg
import Derived.Test.YtffhfllikamccaaGreatDoorTMem
import Derived.BigRegion
import Derived.Deep.RegionHeld3
import Derived.Test.YtffhfllikamccaaGreatDoorTFuncs
import Derived.Lib.SlBytesConst
import Derived.Laws.AppendOwnNone
namespace Go.Proofs.YtffhfllikamccaaGreatDoor
open Go Go.RowKit Go.Shelf Go.Proofs
attribute [local go_sem] Oper.semAt_some

theorem dcells_length (l : List DX) : (dcells l).length = l.length * 3 := by
  induction l with
  | nil => rfl
  | cons x l ih =>
    have e : dcells (x :: l) = x.cs ++ dcells l := rfl
    rw [e, List.length_append, ih]; simp only [DX.cs, List.length_cons, List.length_nil]; omega
theorem dcells_at : ∀ (l : List DX) (i : Nat) (x : DX), l[i]? = some x → (dcells l)[i * 3]? = some (.int .i64 x.k) ∧ (dcells l)[i * 3 + 1]? = some (.string x.p) ∧ (dcells l)[i * 3 + 2]? = some (.slice x.A x.b.length x.c)
  | [], i, x, h => by simp at h
  | y :: l, 0, x, h => by simp at h; subst h; exact ⟨rfl, rfl, rfl⟩
  | y :: l, i + 1, x, h => by
    obtain ⟨h1, h2, h3⟩ := dcells_at l i x (by simpa using h)
    have e : dcells (y :: l) = .int .i64 y.k :: .string y.p :: .slice y.A y.b.length y.c :: dcells l := rfl
    rw [e, show (i + 1) * 3 = i * 3 + 1 + 1 + 1 from by omega]
    refine ⟨by simpa using h1, ?_, ?_⟩
    · rw [show i * 3 + 1 + 1 + 1 + 1 = (i * 3 + 1) + 1 + 1 + 1 from by omega]; simpa using h2
    · rw [show i * 3 + 1 + 1 + 1 + 2 = (i * 3 + 2) + 1 + 1 + 1 from by omega]; simpa using h3
theorem DeltasAt.dels {base : Nat} {w : World} {v : Value} {l : List DX} (h : DeltasAt base w v l) : ∃ A c, v = .slice A l.length c ∧ DelsAt w A c l := by
  rcases h.own.2 with ⟨rfl, h0⟩ | ⟨g, cap, cur, rfl, _, _, hc, hcm, _, _⟩
  · obtain rfl : l = [] := List.eq_nil_of_length_eq_zero h0
    exact ⟨none, 0, rfl, Nat.zero_le _, Nat.zero_le _, fun h => absurd h (by simp), fun x hx => by cases hx⟩
  · refine ⟨_, _, rfl, hc, hcm, fun _ => ⟨g, 0, rfl, fun i x hx => ?_⟩, fun x hx => (h.bod x hx).at_⟩
    obtain ⟨h1, h2, h3⟩ := dcells_at l i x hx
    have a1 := World.ownsRow.cells h.own (g := g) rfl _ _ h1
    have a2 := World.ownsRow.cells h.own (g := g) rfl _ _ h2
    have a3 := World.ownsRow.cells h.own (g := g) rfl _ _ h3
    rw [Go.WideShapes.add_plain, Nat.zero_add] at a1 a2 a3
    rw [Nat.zero_add]
    exact ⟨a1, a2, a3⟩

/-- string(b). -/
theorem run_str (w : World) (A : Option Addr) (c : Nat) (b : Bs) (h : BytesAt w A b) : (convert 60 9 (.slice A b.length c)).run Tryz.prog w = .ok (.string (mkB b)) w := by
  cases b with
  | nil => exact run_convert_bytes_zero w 60 5 Tryz.underlying60 Tryz.underlying5 A c 9 Tryz.underlying9
  | cons x r =>
    obtain ⟨g, o, rfl, hc⟩ := h (by simp)
    refine run_convert_bytes_back w 60 9 5 ⟨g, o, none⟩ c (x :: r) Tryz.underlying60 Tryz.underlying5 Tryz.underlying9 fun j hj => ?_
    rw [Go.WideShapes.add_plain, hc j hj]
    have e : (numsB (x :: r))[j]? = some (((x :: r)[j].toNat : Nat) : Int) := by unfold numsB; rw [List.getElem?_map, List.getElem?_eq_getElem hj]; rfl
    rw [List.getD, e]; rfl
theorem mkB_eq (a b : Bs) : ((mkB a).toList == (mkB b).toList) = (a == b) := by
  rw [ByteArray.toList_eq, ByteArray.toList_eq, mkB_data, mkB_data]

end Go.Proofs.YtffhfllikamccaaGreatDoor
namespace Go.Proofs.YtffhfllikamccaaGreatDoor
open Go Go.RowKit Go.Shelf Go.Proofs
attribute [local go_sem] Oper.semAt_some

def FX.long (x : FX) : Nat := 1 + x.p.size + x.b.length
def longN (l : List FX) : Nat := (l.map FX.long).sum
theorem longN_snoc {l : List FX} {k : Nat} {x : FX} (hx : l[k]? = some x) : longN (l.take (k + 1)) = longN (l.take k) + 1 + x.p.size + x.b.length := by
  unfold longN
  rw [List.take_add_one, hx, List.map_append, List.sum_append]
  simp [FX.long]; omega
theorem longN_le (l : List FX) (h : ∀ x ∈ l, x.p.size ≤ 281474976710656 ∧ x.b.length ≤ 281474976710656) : longN l ≤ l.length * 562949953421313 := by
  induction l with
  | nil => simp [longN]
  | cons x l ih =>
    have := ih fun y hy => h y (by simp [hy])
    have := h x (by simp)
    unfold longN at *
    simp only [List.map_cons, List.sum_cons, List.length_cons, FX.long]
    omega

set_option maxRecDepth 100000 in
set_option maxHeartbeats 4000000 in
theorem reflong_any (l : List FX) (A : Option Addr) (c : Nat) (w : World) (h : TreeAt w A c l) (hl : l.length ≤ 40) (hs : ∀ x ∈ l, x.p.size ≤ 281474976710656 ∧ x.b.length ≤ 281474976710656) :
    Calls Tryz.prog 25 #[.slice A l.length c] w fun e w' => e = .returned (.int .i64 (longN l)) ∧ Below w.heap.size w w' := by
  have HT := Lib.hid h; clear h
  have HS := Lib.hid hs; clear hs
  go_enter Tryz.func25, Tryz.ntmps25
  go_wp2_with fail
  go_loopw [3, 4] (fun s i wr => ∃ (k : Nat), k ≤ l.length ∧ s = .int .i64 (longN (l.take k)) ∧ i = .int .i64 k ∧ Below w.heap.size w wr) (fun _ i _ => l.length - (intOf i).toNat)
  case atStart => exact ⟨0, Nat.zero_le _, rfl, rfl, Below.refl _ _⟩
  case round =>
    obtain ⟨k, hk, rfl, rfl, hbr⟩ := hrel
    by_cases h1 : k < l.length
    · obtain ⟨x, hx⟩ : ∃ x, l[k]? = some x := ⟨_, List.getElem?_eq_getElem h1⟩
      obtain ⟨b, o, hA, hr⟩ := HT.out.row (by omega)
      subst hA
      obtain ⟨c1, c2⟩ := (hr.keep fun hb => hbr.block _ hb) k x hx
      have hsn := longN_snoc hx
      have hle := longN_le (l.take k) fun y hy => HS.out y (List.mem_of_mem_take hy)
      have hlt : (l.take k).length ≤ 40 := by rw [List.length_take]; omega
      obtain ⟨hx1, hx2⟩ := HS.out x (List.mem_of_getElem? hx)
      have k1 : (k : Int) < (l.length : Int) := by omega
      have hn : longN (l.take k) ≤ 40 * 562949953421313 := Nat.le_trans hle (Nat.mul_le_mul_right _ hlt)
      generalize longN (l.take k) = n at *
      have e1 : IntKind.i64.wrap ((n : Int) + 1) = (n : Int) + 1 := IntWalk.i64_in _ (by omega)
      have e2 : IntKind.i64.wrap ((n : Int) + 1 + (x.p.size : Int)) = (n : Int) + 1 + (x.p.size : Int) := IntWalk.i64_in _ (by omega)
      have e3 : IntKind.i64.wrap ((n : Int) + 1 + (x.p.size : Int) + (x.b.length : Int)) = (n : Int) + 1 + (x.p.size : Int) + (x.b.length : Int) := IntWalk.i64_in _ (by omega)
      clear hr hle hlt
      have HX := Lib.hid hx; clear hx
      have HSN := Lib.hid hsn; clear hsn
      go_wp2_with fail
      go_region
      go_wp2_with fail
      go_roundw
      case rel => exact ⟨k + 1, by omega, by rw [HSN.out]; go_num, by go_num, hbr.drew⟩
      case measure => simp [intOf]; omega
    · obtain rfl : k = l.length := by omega
      have hln : longN (l.take l.length) = longN l := by rw [List.take_length]
      have HLN := Lib.hid hln; clear hln
      go_wp2_with fail
      go_ret
      exact ⟨by rw [← HLN.out]; rfl, hbr⟩

def smallL (l : List FX) : Bool := decide (l.length ≤ 40) && decide (longN l ≤ 3000)
end Go.Proofs.YtffhfllikamccaaGreatDoor
namespace Go.Proofs.YtffhfllikamccaaGreatDoor
open Go Go.RowKit Go.Shelf Go.Proofs

/-- The chapter's tree of one file. -/
def fileA (g : Nat) : FX := ⟨⟨#[97]⟩, some ⟨g, 0, none⟩, 1, [120]⟩
theorem known_right (g : Nat) : rightT (flsX [fileA g]) = true := by kernel_rfl
theorem known_diff (g : Nat) : diffB [] [fileA g] = [⟨1, [97], [120]⟩] := by
  unfold diffB
  have e : (rightT (flsX []) && rightT (flsX [fileA g])) = true := by rw [known_right]; kernel_rfl
  rw [if_pos e]
  simp [flsX, fileA, FX.fl, diffT]
theorem known_apply : applyT [] [⟨1, [97], [120]⟩] = .ok [([97], [120])] := by kernel_rfl

theorem known_tree {w W : World} (hW : (w.alloc (.cells #[.int .u8 120] 5 (1, 2))).alloc (.cells #[.string ⟨#[97]⟩, .slice (some ⟨w.heap.size, 0, none⟩) 1 1] 65) = W) :
    TreeAt W (some ⟨w.heap.size + 1, 0, none⟩) 1 [fileA w.heap.size] ∧ Below w.heap.size w W := by
  obtain ⟨X, hX⟩ : ∃ X, w.alloc (.cells #[.int .u8 120] 5 (1, 2)) = X := ⟨_, rfl⟩
  have hx0 : X.cell? ⟨w.heap.size, 0, none⟩ = some (.int .u8 120) := by rw [← hX]; exact World.cell?_alloc_mark w _ _ _ 0
  have hxs : X.heap.size = w.heap.size + 1 := by rw [← hX]; simp
  have hbX : Below w.heap.size w X := by rw [← hX]; exact (Below.refl _ _).alloc (Nat.le_refl _) _
  rw [hX] at hW
  have hbx := heap_alloc_new X (.cells #[.string ⟨#[97]⟩, .slice (some ⟨w.heap.size, 0, none⟩) 1 1] 65)
  have hbW : Below X.heap.size X W := by rw [← hW]; exact (Below.refl _ _).alloc (Nat.le_refl _) _
  rw [hW, hxs] at hbx
  refine ⟨⟨Nat.le_refl _, by decide, fun _ => ⟨_, 0, rfl, fun i x hx => ?_⟩, fun x hx => ?_⟩, hbX.trans (hbW.mono hbX.size)⟩
  · cases i with
    | succ i => simp at hx
    | zero =>
      simp at hx; subst hx
      exact ⟨cell_of_row _ _ 0 _ _ _ hbx, cell_of_row _ _ 1 _ _ _ hbx⟩
  · obtain rfl := List.mem_singleton.1 hx
    intro _
    refine ⟨_, 0, rfl, fun i hi => ?_⟩
    have hi : i < 1 := hi
    obtain rfl : i = 0 := by omega
    exact (hbW.cell (p := ⟨w.heap.size, 0, none⟩) (by rw [hxs]; exact Nat.lt_succ_self _)).trans hx0

end Go.Proofs.YtffhfllikamccaaGreatDoor
namespace Go.Proofs.YtffhfllikamccaaGreatDoor
open Go Go.RowKit Go.Shelf Go.Proofs

theorem longN_mem {l : List FX} {x : FX} (h : x ∈ l) : 1 + x.p.size + x.b.length ≤ longN l := by
  induction l with
  | nil => cases h
  | cons y l ih =>
    have e : longN (y :: l) = 1 + y.p.size + y.b.length + longN l := by unfold longN; simp [FX.long]
    rw [e]
    rcases List.mem_cons.1 h with rfl | h
    · omega
    · have := ih h; omega
/-- A tree that is looked at. -/
structure TinyX (l : List FX) : Prop where
  len : l.length ≤ 40
  each : ∀ x ∈ l, x.p.size ≤ 3000 ∧ x.b.length ≤ 3000
theorem smallL_tiny {l : List FX} (h : smallL l = true) : TinyX l := by
  unfold smallL at h
  simp only [Bool.and_eq_true, decide_eq_true_eq] at h
  exact ⟨h.1, fun x hx => by have := longN_mem hx; omega⟩
theorem TinyX.small {l : List FX} (h : TinyX l) : SmallX l := ⟨by have := h.len; omega, fun x hx => by have := h.each x hx; omega⟩
theorem TinyX.paths {l : List FX} (h : TinyX l) : ∀ x ∈ l, x.p.size ≤ 1000000 := fun x hx => (h.small.2 x hx).1

theorem diffT_from : ∀ (a b : List Fl), ∀ d ∈ diffT a b, (∃ x ∈ a, d.p = x.1 ∧ d.b = []) ∨ ∃ y ∈ b, d.p = y.1 ∧ d.b = y.2
  | [], [] => fun d hd => by simp [diffT] at hd
  | [], y :: b => fun d hd => by
    simp only [diffT, List.mem_cons] at hd
    rcases hd with rfl | hd
    · exact .inr ⟨y, by simp, rfl, rfl⟩
    · exact (diffT_from [] b d hd).imp (fun ⟨x, h, _⟩ => by cases h) fun ⟨z, h, h2⟩ => ⟨z, by simp [h], h2⟩
  | x :: a, [] => fun d hd => by
    simp only [diffT, List.mem_cons] at hd
    rcases hd with rfl | hd
    · exact .inl ⟨x, by simp, rfl, rfl⟩
    · exact (diffT_from a [] d hd).imp (fun ⟨z, h, h2⟩ => ⟨z, by simp [h], h2⟩) fun ⟨_, h, _⟩ => by cases h
  | x :: a, y :: b => fun d hd => by
    rw [diffT] at hd
    have up1 := fun h => (diffT_from a b d h).imp (fun ⟨z, h, h2⟩ => (⟨z, List.mem_cons_of_mem _ h, h2⟩ : ∃ z ∈ x :: a, d.p = z.1 ∧ d.b = [])) fun ⟨z, h, h2⟩ => (⟨z, List.mem_cons_of_mem _ h, h2⟩ : ∃ z ∈ y :: b, d.p = z.1 ∧ d.b = z.2)
    split at hd
    · split at hd
      · exact up1 hd
      · rcases List.mem_cons.1 hd with rfl | hd
        · exact .inr ⟨y, by simp, rfl, rfl⟩
        · exact up1 hd
    · split at hd
      · rcases List.mem_cons.1 hd with rfl | hd
        · exact .inl ⟨x, by simp, rfl, rfl⟩
        · exact (diffT_from a (y :: b) d hd).imp (fun ⟨z, h, h2⟩ => ⟨z, List.mem_cons_of_mem _ h, h2⟩) id
      · rcases List.mem_cons.1 hd with rfl | hd
        · exact .inr ⟨y, by simp, rfl, rfl⟩
        · exact (diffT_from (x :: a) b d hd).imp id fun ⟨z, h, h2⟩ => ⟨z, List.mem_cons_of_mem _ h, h2⟩
termination_by a b => a.length + b.length
theorem diffT_len : ∀ (a b : List Fl), (diffT a b).length ≤ a.length + b.length
  | [], [] => by simp [diffT]
  | [], y :: b => by have := diffT_len [] b; simp only [diffT, List.length_cons, List.length_nil] at *; omega
  | x :: a, [] => by have := diffT_len a []; simp only [diffT, List.length_cons, List.length_nil] at *; omega
  | x :: a, y :: b => by
    have h1 := diffT_len a b
    have h2 := diffT_len a (y :: b)
    have h3 := diffT_len (x :: a) b
    rw [diffT]
    simp only [List.length_cons] at *
    split
    · split
      · omega
      · rw [List.length_cons]; omega
    · split <;> (rw [List.length_cons]; omega)
termination_by a b => a.length + b.length

/-- What Diff answered of two small trees is a small row of changes. -/
theorem diff_small {a b : List FX} {l : List DX} (ha : TinyX a) (hb : TinyX b) (h : l.map DX.dl = diffT (flsX a) (flsX b)) : l.length ≤ 80 ∧ ∀ x ∈ l, x.p.size ≤ 3000 ∧ x.b.length ≤ 3000 := by
  have hn := diffT_len (flsX a) (flsX b)
  rw [← h, List.length_map, flsX_length, flsX_length] at hn
  refine ⟨by have := ha.len; have := hb.len; omega, fun x hx => ?_⟩
  have hm : x.dl ∈ diffT (flsX a) (flsX b) := by rw [← h]; exact List.mem_map.2 ⟨x, hx, rfl⟩
  have hp : x.p.size = x.dl.p.length := Array.length_toList.symm
  have hf : ∀ {c : List FX}, TinyX c → ∀ y ∈ flsX c, y.1.length ≤ 3000 ∧ y.2.length ≤ 3000 := fun hc y hy => by
    obtain ⟨z, hz, rfl⟩ := List.mem_map.1 hy
    have := hc.each z hz
    exact ⟨by show z.p.data.toList.length ≤ 3000; rw [Array.length_toList]; exact this.1, this.2⟩
  rcases diffT_from _ _ _ hm with ⟨y, hy, e1, e2⟩ | ⟨y, hy, e1, e2⟩
  · have := hf ha y hy
    exact ⟨by rw [hp, e1]; exact this.1, by show x.dl.b.length ≤ 3000; rw [e2]; simp⟩
  · have := hf hb y hy
    exact ⟨by rw [hp, e1]; exact this.1, by show x.dl.b.length ≤ 3000; rw [e2]; exact this.2⟩
end Go.Proofs.YtffhfllikamccaaGreatDoor
namespace Go.Proofs.YtffhfllikamccaaGreatDoor
open Go Go.RowKit Go.Shelf Go.Proofs

theorem dcells_append (a b : List DX) : dcells (a ++ b) = dcells a ++ dcells b := by unfold dcells; rw [List.flatMap_append]
theorem dcells_one (l : List DX) : ∀ u ∈ dcells l, u.oneCell' = true := by
  intro u hu
  unfold dcells at hu
  obtain ⟨x, _, hx⟩ := List.mem_flatMap.1 hu
  unfold DX.cs at hx
  simp only [List.mem_cons, List.mem_nil_iff, or_false] at hx
  rcases hx with rfl | rfl | rfl <;> rfl
def RowD (base : Nat) (w : World) (v : Value) (l : List DX) : Prop := w.ownsRow base 62 3 v l.length (dcells l)
theorem wpList_append_dels {ops : Array Oper} {rest : List Oper} {o : Oper} {a : Act} {w : World} {Q : Exit → Act → World → Prop} (hgd : o.guard = none) (s x : Operand)
    (ho : o.op = .call { callee := .builtin .append, args := #[s, x], argTypes := #[39, 39] })
    (base base' : Nat) (v vx : Value) (l m : List DX) (hs : a.eval s = v) (hown : RowD base w v l) (hx : a.eval x = vx) (hm : DeltasAt base' w vx m) (hl : l.length + m.length ≤ 10000) (hbase : base ≤ w.heap.size)
    (h : ∀ v' w', RowD base w' v' (l ++ m) → w.grownBy w' v.ownBlock → wpList Tryz.prog ops Q rest (a.put o.dst v') w') : wpList Tryz.prog ops Q (o :: rest) a w := by
  obtain ⟨i0, hi, hz0, hz1, hz2⟩ := info_parts delta_info
  rcases hm.own.2 with ⟨rfl, h0⟩ | ⟨g, cap, cur, rfl, _⟩
  · obtain rfl : m = [] := List.eq_nil_of_length_eq_zero h0
    refine wpList_append_own_none hgd s x 39 ho base 62 i0 3 Tryz.underlying39 hi v l.length (dcells l) hs hown hx (h v w ?_ (World.grownBy.refl w _))
    rw [List.append_nil]; exact hown
  · refine wpList_append_own w hgd s x 39 ho base 62 i0 (.agg #[.int .i64 0, .string ⟨#[]⟩, .slice none 0 0]) 3 48 Tryz.underlying39 hi hz0 hz1 hz2 rfl (by decide) v l.length (dcells l) hs hown ⟨g, 0, none⟩ m.length cap (dcells m) hx (dcells_length m) ?_ (dcells_one m) (by unfold maxLen; omega) (by omega) hbase fun v' w' h1 h2 _ => h v' w' ?_ h2
    · exact World.ownsRow.cells hm.own (g := g) rfl
    · show World.ownsRow _ _ _ _ _ _ _
      rw [List.length_append, dcells_append]; exact h1
theorem RowD.dels {base : Nat} {w : World} {v : Value} {l : List DX} (h : RowD base w v l) (hb : ∀ x ∈ l, BytesAt w x.A x.b) : ∃ A c, v = .slice A l.length c ∧ DelsAt w A c l := by
  rcases h.2 with ⟨rfl, h0⟩ | ⟨g, cap, cur, rfl, _, _, hc, hcm, _, _⟩
  · obtain rfl : l = [] := List.eq_nil_of_length_eq_zero h0
    exact ⟨none, 0, rfl, Nat.zero_le _, Nat.zero_le _, fun h => absurd h (by simp), fun x hx => by cases hx⟩
  · refine ⟨_, _, rfl, hc, hcm, fun _ => ⟨g, 0, rfl, fun i x hx => ?_⟩, hb⟩
    obtain ⟨h1, h2, h3⟩ := dcells_at l i x hx
    have a1 := World.ownsRow.cells h (g := g) rfl _ _ h1
    have a2 := World.ownsRow.cells h (g := g) rfl _ _ h2
    have a3 := World.ownsRow.cells h (g := g) rfl _ _ h3
    rw [Go.WideShapes.add_plain, Nat.zero_add] at a1 a2 a3
    rw [Nat.zero_add]
    exact ⟨a1, a2, a3⟩
theorem TinyX.of_fls {l m : List FX} (h : flsX l = flsX m) (hm : TinyX m) : TinyX l := by
  have hn := congrArg List.length h
  rw [flsX_length, flsX_length] at hn
  refine ⟨by rw [hn]; exact hm.len, fun x hx => ?_⟩
  have hx2 : x.fl ∈ flsX m := by rw [← h]; exact List.mem_map.2 ⟨x, hx, rfl⟩
  obtain ⟨y, hy, e⟩ := List.mem_map.1 hx2
  have hh := hm.each y hy
  have e1 : y.p.data.toList = x.p.data.toList := congrArg (·.1) e
  have e2 : y.b = x.b := congrArg (·.2) e
  have e3 := congrArg List.length e1
  rw [Array.length_toList, Array.length_toList] at e3
  have e4 : y.p.size = x.p.size := e3
  rw [← e4, ← e2]; exact hh
end Go.Proofs.YtffhfllikamccaaGreatDoor
