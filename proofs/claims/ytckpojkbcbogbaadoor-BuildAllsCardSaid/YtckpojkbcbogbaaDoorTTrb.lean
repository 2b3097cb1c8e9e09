/-
  The contract of tree.Right. · tree.refusal, tree.changed. · tree.Apply. · The contract of tree.Diff. · The contract of tree.Diff, whole. · A row of changes that a call made, read as an argument; bytes compared as strings; the document's Same of bytes. · The contracts of the document's Long, and of small. · What the laws of layer 2 call: known. · What the laws of layer 2 want besides: sizes of a small tree, where a difference's changes come from. · Two rows of changes, the one behind the other. · Sizes of trees that calls made; a file that was boxed. · The contracts of the document's own answers of layer 2: find, Drop, Put, Same.
-/
import Derived.Test.YtckpojkbcbogbaaDoorTNested
import Derived.Test.YtckpojkbcbogbaaDoorConsists
import Derived.Deep.RegionHeld3
import Derived.BigQuiet
import Derived.IntWalk
import Derived.Deep.QuietTactic
import Derived.Test.YtckpojkbcbogbaaDoorTTra
import Derived.Laws.BytesArg
import Derived.Test.YtckpojkbcbogbaaDoorTMem
import Derived.BigRegion
import Derived.Test.YtckpojkbcbogbaaDoorTFuncs
import Derived.Lib.SlBytesConst
import Derived.Laws.AppendOwnNone
import Derived.Test.YtckpojkbcbogbaaDoorTOpen
namespace Go.Proofs.YtckpojkbcbogbaaDoor
open Go Go.RowKit Go.Shelf Go.Proofs

theorem MaxOk.drew {w : World} (h : MaxOk w) : MaxOk w.drew := h
theorem pright_to (s : ByteArray) (r : Bool) (w : World) (hs : s.size ≤ 1000000) (hm : MaxOk w) (h : rightB s.data.toList = r) :
    Calls Tryd.prog 37 #[.string s] w fun e w' => e = .returned (.bool r) ∧ Below w.heap.size w w' := by
  have := right_any s w (by unfold maxLen; omega) hm
  rwa [h] at this

/-- What is known of the files ahead of place k. -/
def Ahead (l : List FX) (k : Nat) : Prop := (∀ j x, j < k → l[j]? = some x → rightB x.p.data.toList = true) ∧ (∀ j x y, j + 1 < k → l[j]? = some x → l[j + 1]? = some y → ltB x.p.data.toList y.p.data.toList = true)
theorem Ahead.zero (l : List FX) : Ahead l 0 := ⟨fun _ _ h => absurd h (Nat.not_lt_zero _), fun _ _ _ h => absurd h (Nat.not_lt_zero _)⟩
theorem Ahead.next {l : List FX} {k : Nat} {x : FX} (h : Ahead l k) (hx : l[k]? = some x) (hr : rightB x.p.data.toList = true) (hl : ∀ y, 0 < k → l[k - 1]? = some y → ltB y.p.data.toList x.p.data.toList = true) : Ahead l (k + 1) := by
  refine ⟨fun j y hj hy => ?_, fun j y z hj hy hz => ?_⟩
  · by_cases e : j = k
    · subst e; rw [hx] at hy; cases hy; exact hr
    · exact h.1 j y (by omega) hy
  · by_cases e : j + 1 = k
    · subst e; rw [hx] at hz; cases hz; exact hl y (by omega) hy
    · exact h.2 j y z (by omega) hy hz
theorem fls_at {l : List FX} {i : Nat} {z : Fl} (h : (flsX l)[i]? = some z) : ∃ x, l[i]? = some x ∧ z = x.fl := by
  rw [flsX_getElem?] at h
  cases e : l[i]? with
  | none => rw [e] at h; cases h
  | some x => rw [e] at h; cases h; exact ⟨x, rfl, rfl⟩
theorem Ahead.chain {l : List FX} (h : Ahead l l.length) : ∀ (i : Nat) (x y : Fl), (flsX l)[i]? = some x → (flsX l)[i + 1]? = some y → ltB x.1 y.1 = true := by
  intro i a b ha hb
  obtain ⟨x, hx, rfl⟩ := fls_at ha
  obtain ⟨y, hy, rfl⟩ := fls_at hb
  exact h.2 i x y (List.getElem?_eq_some_iff.1 hy).1 hx hy
theorem Ahead.all {l : List FX} (h : Ahead l l.length) : ∀ (i : Nat) (x : Fl), (flsX l)[i]? = some x → rightB x.1 = true := by
  intro i a ha
  obtain ⟨x, hx, rfl⟩ := fls_at ha
  exact h.1 i x (List.getElem?_eq_some_iff.1 hx).1 hx

end Go.Proofs.YtckpojkbcbogbaaDoor
namespace Go.Proofs.YtckpojkbcbogbaaDoor
open Go Go.RowKit Go.Shelf Go.Proofs

/-- Why a list can't have a change; 0: it can. -/
def refT (t : List Fl) (d : Dl) : Int :=
  if !(decide (d.k = 1 ∨ d.k = 2 ∨ d.k = 3) && rightB d.p) then 2
  else if hasT t d.p && decide (d.k = 1) then 5
  else if !hasT t d.p && !decide (d.k = 1) then 6
  else 0
def chT (t : List Fl) (d : Dl) : List Fl := if d.k = 3 then dropT t d.p else putT t (d.p, d.b)
theorem stepT_ref (t : List Fl) (d : Dl) : stepT t d = if refT t d = 0 then .ok (chT t d) else .error (refT t d) := by
  unfold stepT refT chT
  split
  · rw [if_neg (by decide)]
  · split
    · rw [if_neg (by decide)]
    · split
      · rw [if_neg (by decide)]
      · rw [if_pos rfl]
def DX.f (d : DX) : FX := ⟨d.p, d.A, d.c, d.b⟩
def chX (l : List FX) (d : DX) : List FX := if d.k = 3 then keepX l d.p else putX l d.f
theorem chX_fls (l : List FX) (d : DX) : flsX (chX l d) = chT (flsX l) d.dl := by
  unfold chX chT
  by_cases h : d.k = 3
  · rw [if_pos h, if_pos (show d.dl.k = 3 from h), keepX_fls]; rfl
  · rw [if_neg h, if_neg (show ¬ d.dl.k = 3 from h), putX_fls]; rfl
theorem chX_le (l : List FX) (d : DX) : (chX l d).length ≤ l.length + 1 := by
  unfold chX
  split
  · exact Nat.le_trans (List.length_filter_le _ _) (by omega)
  · exact putX_le _ _
theorem chX_sub {l : List FX} {d : DX} : ∀ x ∈ chX l d, x = d.f ∨ x ∈ l := fun x hx => by
  unfold chX at hx
  split at hx
  · exact .inr (keepX_sub x hx)
  · exact putX_sub x hx

end Go.Proofs.YtckpojkbcbogbaaDoor
namespace Go.Proofs.YtckpojkbcbogbaaDoor
open Go Go.RowKit Go.Shelf Go.Proofs

/-- The slice value .slice A n c holds the changes l. -/
structure DelsAt (w : World) (A : Option Addr) (c : Nat) (l : List DX) : Prop where
  cap : l.length ≤ c
  capm : c ≤ maxLen
  row : 0 < l.length → ∃ g o, A = some ⟨g, o, none⟩ ∧ ∀ i x, l[i]? = some x → w.cell? ⟨g, o + i * 3, none⟩ = some (.int .i64 x.k) ∧ w.cell? ⟨g, o + i * 3 + 1, none⟩ = some (.string x.p) ∧ w.cell? ⟨g, o + i * 3 + 2, none⟩ = some (.slice x.A x.b.length x.c)
  bytes : ∀ x ∈ l, BytesAt w x.A x.b
def SmallD (l : List DX) : Prop := l.length ≤ 10000 ∧ ∀ x ∈ l, x.p.size ≤ 1000000 ∧ x.b.length ≤ 1000000
theorem DelsAt.below {w w' : World} {A : Option Addr} {c : Nat} {l : List DX} (h : DelsAt w A c l) (hb : Below w.heap.size w w') : DelsAt w' A c l := by
  refine ⟨h.cap, h.capm, fun hn => ?_, fun x hx => (h.bytes x hx).below hb⟩
  obtain ⟨g, o, e, hr⟩ := h.row hn
  refine ⟨g, o, e, fun i x hx => ?_⟩
  obtain ⟨h1, h2, h3⟩ := hr i x hx
  have hl : g < w.heap.size := World.block_lt_of_cell? w (a := ⟨g, o + i * 3, none⟩) h1
  exact ⟨(hb.cell (p := ⟨g, o + i * 3, none⟩) hl).trans h1, (hb.cell (p := ⟨g, o + i * 3 + 1, none⟩) hl).trans h2, (hb.cell (p := ⟨g, o + i * 3 + 2, none⟩) hl).trans h3⟩
theorem stepsT_step {t : List Fl} {D : List Dl} {k : Nat} {d : Dl} (hd : D[k]? = some d) : stepsT t (D.drop k) = match stepT t d with
    | .error e => .error e
    | .ok u => stepsT u (D.drop (k + 1)) := by
  obtain ⟨hk, rfl⟩ := List.getElem?_eq_some_iff.1 hd
  rw [List.drop_eq_getElem_cons hk]; rfl

/-- Behind the first k changes: the list m, in a row of the call's own. -/
structure AppInv (w : World) (l : List FX) (D : List DX) (v : Value) (wr : World) (k : Nat) (m : List FX) : Prop where
  own : FilesOwn w.heap.size wr v m
  len : m.length ≤ l.length + k
  bod : BodiesLow w.heap.size w m
  pat : ∀ x ∈ m, x.p.size ≤ 1000000
  bel : Below w.heap.size w wr
  steps : stepsT (flsX l) (D.map DX.dl) = stepsT (flsX m) ((D.map DX.dl).drop k)

theorem AppInv.tree {w wr : World} {l m : List FX} {D : List DX} {A : Option Addr} {n c k : Nat} (h : AppInv w l D (.slice A n c) wr k m) : TreeAt wr A c m :=
  (h.own.tree fun x hx => ((h.bod.below h.bel) x hx).1).2
theorem AppInv.next {w wr w2 w3 : World} {l m : List FX} {D : List DX} {v v' : Value} {k : Nat} {x : DX} (h : AppInv w l D v wr k m) (hx : D[k]? = some x) (h0 : refT (flsX m) x.dl = 0) (hb : BytesAt w x.A x.b) (hs : x.p.size ≤ 1000000 ∧ x.b.length ≤ 1000000)
    (hb2 : Below wr.heap.size wr w2) (ho : FilesOwn w.heap.size w3 v' (chX m x)) (hg : w2.grownBy w3 v.ownBlock) : AppInv w l D v' w3 (k + 1) (chX m x) := by
  have hbel : Below w.heap.size w w2 := h.bel.trans (hb2.mono h.bel.size)
  refine ⟨ho, ?_, fun y hy => ?_, fun y hy => ?_, hbel.grown hg hbel.size fun g e => (h.own.row e).1, ?_⟩
  · have := chX_le m x; have := h.len; omega
  · rcases chX_sub y hy with rfl | hy
    · exact ⟨hb, hb.low, hs.2⟩
    · exact h.bod y hy
  · rcases chX_sub y hy with rfl | hy
    · exact hs.1
    · exact h.pat y hy
  · rw [h.steps, stepsT_step (d := x.dl) (by rw [List.getElem?_map, hx]; rfl), stepT_ref, if_pos h0, chX_fls]
theorem AppInv.fail {w wr : World} {l m : List FX} {D : List DX} {v : Value} {k : Nat} {x : DX} (h : AppInv w l D v wr k m) (hx : D[k]? = some x) (h0 : refT (flsX m) x.dl ≠ 0) : applyT (flsX l) (D.map DX.dl) = .error (refT (flsX m) x.dl) := by
  unfold applyT
  rw [h.steps, stepsT_step (d := x.dl) (by rw [List.getElem?_map, hx]; rfl), stepT_ref, if_neg h0]
theorem AppInv.done {w wr : World} {l m : List FX} {D : List DX} {v : Value} (h : AppInv w l D v wr D.length m) : applyT (flsX l) (D.map DX.dl) = if longT (flsX m) then .error 3 else if rightT (flsX m) then .ok (flsX m) else .error 4 := by
  unfold applyT
  rw [h.steps, List.drop_of_length_le (by rw [List.length_map]; exact Nat.le_refl _)]; rfl

def ApplyPost (w : World) (r : Except Int (List Fl)) (e : Ending) (w' : World) : Prop := match r with
  | .error k => e = .returned (.tuple #[.slice none 0 0, .int .i64 k]) ∧ Below w.heap.size w w'
  | .ok f => ∃ v' l', e = .returned (.tuple #[v', .int .i64 0]) ∧ TreeMade w.heap.size w' v' l' ∧ flsX l' = f ∧ Below w.heap.size w w'

end Go.Proofs.YtckpojkbcbogbaaDoor
namespace Go.Proofs.YtckpojkbcbogbaaDoor
open Go Go.RowKit Go.Shelf Go.Proofs
attribute [local go_sem] Oper.semAt_some

def diffB (a b : List FX) : List Dl := if rightT (flsX a) && rightT (flsX b) then diffT (flsX a) (flsX b) else []
/-- What has been told of the first k pairs. -/
def toldP (a b : List FX) (k : Nat) : List Dl := ((pairsX a b).take k).flatMap (delP (flsX a) (flsX b))
theorem toldP_zero (a b : List FX) : toldP a b 0 = [] := rfl
theorem toldP_snoc (a b : List FX) (k : Nat) (x : Option Nat × Option Nat) (hx : (pairsX a b)[k]? = some x) : toldP a b (k + 1) = toldP a b k ++ delP (flsX a) (flsX b) x := by
  unfold toldP
  rw [List.take_add_one, hx, List.flatMap_append]; simp
theorem toldP_all (a b : List FX) : toldP a b (pairsX a b).length = diffT (flsX a) (flsX b) := by
  unfold toldP
  rw [List.take_length]
  exact pairsN_delP _ _ _ _ 0 0 rfl rfl
theorem tree_low {w : World} {A B : Option Addr} {c d : Nat} {a b : List FX} (ha : TreeAt w A c a) (hb : TreeAt w B d b) : ∀ k, KeepTwo A B a b k → k < w.heap.size := by
  rintro k (⟨hn, a', e, rfl⟩ | ⟨hn, a', e, rfl⟩)
  · obtain ⟨g, o, rfl, hr⟩ := ha.row hn
    cases e
    obtain ⟨x, hx⟩ : ∃ x, a[0]? = some x := ⟨_, List.getElem?_eq_getElem hn⟩
    exact World.block_lt_of_cell? w (a := ⟨g, o + 0 * 2, none⟩) (hr 0 x hx).1
  · obtain ⟨g, o, rfl, hr⟩ := hb.row hn
    cases e
    obtain ⟨x, hx⟩ : ∃ x, b[0]? = some x := ⟨_, List.getElem?_eq_getElem hn⟩
    exact World.block_lt_of_cell? w (a := ⟨g, o + 0 * 2, none⟩) (hr 0 x hx).1
theorem body_len {b : List FX} (h : rightT (flsX b) = true) {j : Nat} {x : FX} (hx : b[j]? = some x) : x.b.length ≤ 1000000 := by
  have := ((right_all h).2.1 x.fl (by unfold flsX; exact List.mem_map.2 ⟨x, List.mem_of_getElem? hx, rfl⟩)).2
  have e : x.fl.2 = x.b := rfl
  rw [e] at this; omega
theorem below_back {B : Nat} {w W W' : World} (h1 : Below B w W) (h2 : Below B w W') : W.heap.size ≤ W'.heap.size → Below B W W' := fun hs =>
  ⟨h2.os.trans h1.os.symm, h2.tape.trans h1.tape.symm, h2.output.trans h1.output.symm, hs, fun k hk => (h2.block k hk).trans (h1.block k hk).symm⟩
end Go.Proofs.YtckpojkbcbogbaaDoor
namespace Go.Proofs.YtckpojkbcbogbaaDoor
open Go Go.RowKit Go.Shelf Go.Proofs

end Go.Proofs.YtckpojkbcbogbaaDoor
namespace Go.Proofs.YtckpojkbcbogbaaDoor
open Go Go.RowKit Go.Shelf Go.Proofs
attribute [local go_sem] Oper.semAt_some

theorem dcells_length (l : List DX) : (dcells l).length = l.length * 3 := by
  induction l with
  | nil => rfl
  | cons x l ih =>
    have e : dcells (x :: l) = x.cs ++ dcells l := rfl
    rw [e, List.length_append, ih]; simp only [DX.cs, List.length_cons, List.length_nil]; omega
theorem dcells_at : ∀ (l : List DX) (i : Nat) (x : DX), l[i]? = some x → (dcells l)[i * 3]? = some (.int .i64 x.k) ∧ (dcells l)[i * 3 + 1]? = some (.string x.p) ∧ (dcells l)[i * 3 + 2]? = some (.slice x.A x.b.length x.c)
  | [], i, x, h => by simp at h
  | y :: l, 0, x, h => by simp at h; subst h; exact ⟨rfl, rfl, rfl⟩
  | y :: l, i + 1, x, h => by
    obtain ⟨h1, h2, h3⟩ := dcells_at l i x (by simpa using h)
    have e : dcells (y :: l) = .int .i64 y.k :: .string y.p :: .slice y.A y.b.length y.c :: dcells l := rfl
    rw [e, show (i + 1) * 3 = i * 3 + 1 + 1 + 1 from by omega]
    refine ⟨by simpa using h1, ?_, ?_⟩
    · rw [show i * 3 + 1 + 1 + 1 + 1 = (i * 3 + 1) + 1 + 1 + 1 from by omega]; simpa using h2
    · rw [show i * 3 + 1 + 1 + 1 + 2 = (i * 3 + 2) + 1 + 1 + 1 from by omega]; simpa using h3
/-- string(b). -/
theorem run_str (w : World) (A : Option Addr) (c : Nat) (b : Bs) (h : BytesAt w A b) : (convert 44 9 (.slice A b.length c)).run Tryd.prog w = .ok (.string (mkB b)) w := by
  cases b with
  | nil => exact run_convert_bytes_zero w 44 5 Tryd.underlying44 Tryd.underlying5 A c 9 Tryd.underlying9
  | cons x r =>
    obtain ⟨g, o, rfl, hc⟩ := h (by simp)
    refine run_convert_bytes_back w 44 9 5 ⟨g, o, none⟩ c (x :: r) Tryd.underlying44 Tryd.underlying5 Tryd.underlying9 fun j hj => ?_
    rw [Go.WideShapes.add_plain, hc j hj]
    have e : (numsB (x :: r))[j]? = some (((x :: r)[j].toNat : Nat) : Int) := by unfold numsB; rw [List.getElem?_map, List.getElem?_eq_getElem hj]; rfl
    rw [List.getD, e]; rfl
theorem mkB_eq (a b : Bs) : ((mkB a).toList == (mkB b).toList) = (a == b) := by
  rw [ByteArray.toList_eq, ByteArray.toList_eq, mkB_data, mkB_data]

end Go.Proofs.YtckpojkbcbogbaaDoor
namespace Go.Proofs.YtckpojkbcbogbaaDoor
open Go Go.RowKit Go.Shelf Go.Proofs
attribute [local go_sem] Oper.semAt_some

def FX.long (x : FX) : Nat := 1 + x.p.size + x.b.length
def longN (l : List FX) : Nat := (l.map FX.long).sum
theorem longN_snoc {l : List FX} {k : Nat} {x : FX} (hx : l[k]? = some x) : longN (l.take (k + 1)) = longN (l.take k) + 1 + x.p.size + x.b.length := by
  unfold longN
  rw [List.take_add_one, hx, List.map_append, List.sum_append]
  simp [FX.long]; omega
theorem longN_le (l : List FX) (h : ∀ x ∈ l, x.p.size ≤ 281474976710656 ∧ x.b.length ≤ 281474976710656) : longN l ≤ l.length * 562949953421313 := by
  induction l with
  | nil => simp [longN]
  | cons x l ih =>
    have := ih fun y hy => h y (by simp [hy])
    have := h x (by simp)
    unfold longN at *
    simp only [List.map_cons, List.sum_cons, List.length_cons, FX.long]
    omega

set_option maxRecDepth 100000 in
set_option maxHeartbeats 4000000 in
theorem reflong_any (l : List FX) (A : Option Addr) (c : Nat) (w : World) (h : TreeAt w A c l) (hl : l.length ≤ 40) (hs : ∀ x ∈ l, x.p.size ≤ 281474976710656 ∧ x.b.length ≤ 281474976710656) :
    Calls Tryd.prog 9 #[.slice A l.length c] w fun e w' => e = .returned (.int .i64 (longN l)) ∧ Below w.heap.size w w' := by
  have HT := Lib.hid h; clear h
  have HS := Lib.hid hs; clear hs
  go_enter Tryd.func9, Tryd.ntmps9
  go_wp2_with fail
  go_loopw [3, 4] (fun s i wr => ∃ (k : Nat), k ≤ l.length ∧ s = .int .i64 (longN (l.take k)) ∧ i = .int .i64 k ∧ Below w.heap.size w wr) (fun _ i _ => l.length - (intOf i).toNat)
  case atStart => exact ⟨0, Nat.zero_le _, rfl, rfl, Below.refl _ _⟩
  case round =>
    obtain ⟨k, hk, rfl, rfl, hbr⟩ := hrel
    by_cases h1 : k < l.length
    · obtain ⟨x, hx⟩ : ∃ x, l[k]? = some x := ⟨_, List.getElem?_eq_getElem h1⟩
      obtain ⟨b, o, hA, hr⟩ := HT.out.row (by omega)
      subst hA
      obtain ⟨c1, c2⟩ := (hr.keep fun hb => hbr.block _ hb) k x hx
      have hsn := longN_snoc hx
      have hle := longN_le (l.take k) fun y hy => HS.out y (List.mem_of_mem_take hy)
      have hlt : (l.take k).length ≤ 40 := by rw [List.length_take]; omega
      obtain ⟨hx1, hx2⟩ := HS.out x (List.mem_of_getElem? hx)
      have k1 : (k : Int) < (l.length : Int) := by omega
      have hn : longN (l.take k) ≤ 40 * 562949953421313 := Nat.le_trans hle (Nat.mul_le_mul_right _ hlt)
      generalize longN (l.take k) = n at *
      have e1 : IntKind.i64.wrap ((n : Int) + 1) = (n : Int) + 1 := IntWalk.i64_in _ (by omega)
      have e2 : IntKind.i64.wrap ((n : Int) + 1 + (x.p.size : Int)) = (n : Int) + 1 + (x.p.size : Int) := IntWalk.i64_in _ (by omega)
      have e3 : IntKind.i64.wrap ((n : Int) + 1 + (x.p.size : Int) + (x.b.length : Int)) = (n : Int) + 1 + (x.p.size : Int) + (x.b.length : Int) := IntWalk.i64_in _ (by omega)
      clear hr hle hlt
      have HX := Lib.hid hx; clear hx
      have HSN := Lib.hid hsn; clear hsn
      go_wp2_with fail
      go_region
      go_wp2_with fail
      go_roundw
      case rel => exact ⟨k + 1, by omega, by rw [HSN.out]; go_num, by go_num, hbr.drew⟩
      case measure => simp [intOf]; omega
    · obtain rfl : k = l.length := by omega
      have hln : longN (l.take l.length) = longN l := by rw [List.take_length]
      have HLN := Lib.hid hln; clear hln
      go_wp2_with fail
      go_ret
      exact ⟨by rw [← HLN.out]; rfl, hbr⟩

def smallL (l : List FX) : Bool := decide (l.length ≤ 40) && decide (longN l ≤ 3000)
end Go.Proofs.YtckpojkbcbogbaaDoor
namespace Go.Proofs.YtckpojkbcbogbaaDoor
open Go Go.RowKit Go.Shelf Go.Proofs

/-- The chapter's tree of one file. -/
def fileA (g : Nat) : FX := ⟨⟨#[97]⟩, some ⟨g, 0, none⟩, 1, [120]⟩
theorem known_right (g : Nat) : rightT (flsX [fileA g]) = true := by kernel_rfl
theorem known_diff (g : Nat) : diffB [] [fileA g] = [⟨1, [97], [120]⟩] := by
  unfold diffB
  have e : (rightT (flsX []) && rightT (flsX [fileA g])) = true := by rw [known_right]; kernel_rfl
  rw [if_pos e]
  simp [flsX, fileA, FX.fl, diffT]
theorem known_apply : applyT [] [⟨1, [97], [120]⟩] = .ok [([97], [120])] := by kernel_rfl

theorem known_tree {w W : World} (hW : (w.alloc (.cells #[.int .u8 120] 5 (1, 2))).alloc (.cells #[.string ⟨#[97]⟩, .slice (some ⟨w.heap.size, 0, none⟩) 1 1] 49) = W) :
    TreeAt W (some ⟨w.heap.size + 1, 0, none⟩) 1 [fileA w.heap.size] ∧ Below w.heap.size w W := by
  obtain ⟨X, hX⟩ : ∃ X, w.alloc (.cells #[.int .u8 120] 5 (1, 2)) = X := ⟨_, rfl⟩
  have hx0 : X.cell? ⟨w.heap.size, 0, none⟩ = some (.int .u8 120) := by rw [← hX]; exact World.cell?_alloc_mark w _ _ _ 0
  have hxs : X.heap.size = w.heap.size + 1 := by rw [← hX]; simp
  have hbX : Below w.heap.size w X := by rw [← hX]; exact (Below.refl _ _).alloc (Nat.le_refl _) _
  rw [hX] at hW
  have hbx := heap_alloc_new X (.cells #[.string ⟨#[97]⟩, .slice (some ⟨w.heap.size, 0, none⟩) 1 1] 49)
  have hbW : Below X.heap.size X W := by rw [← hW]; exact (Below.refl _ _).alloc (Nat.le_refl _) _
  rw [hW, hxs] at hbx
  refine ⟨⟨Nat.le_refl _, by decide, fun _ => ⟨_, 0, rfl, fun i x hx => ?_⟩, fun x hx => ?_⟩, hbX.trans (hbW.mono hbX.size)⟩
  · cases i with
    | succ i => simp at hx
    | zero =>
      simp at hx; subst hx
      exact ⟨cell_of_row _ _ 0 _ _ _ hbx, cell_of_row _ _ 1 _ _ _ hbx⟩
  · obtain rfl := List.mem_singleton.1 hx
    intro _
    refine ⟨_, 0, rfl, fun i hi => ?_⟩
    have hi : i < 1 := hi
    obtain rfl : i = 0 := by omega
    exact (hbW.cell (p := ⟨w.heap.size, 0, none⟩) (by rw [hxs]; exact Nat.lt_succ_self _)).trans hx0

end Go.Proofs.YtckpojkbcbogbaaDoor
namespace Go.Proofs.YtckpojkbcbogbaaDoor
open Go Go.RowKit Go.Shelf Go.Proofs

theorem longN_mem {l : List FX} {x : FX} (h : x ∈ l) : 1 + x.p.size + x.b.length ≤ longN l := by
  induction l with
  | nil => cases h
  | cons y l ih =>
    have e : longN (y :: l) = 1 + y.p.size + y.b.length + longN l := by unfold longN; simp [FX.long]
    rw [e]
    rcases List.mem_cons.1 h with rfl | h
    · omega
    · have := ih h; omega
/-- A tree that is looked at. -/
structure TinyX (l : List FX) : Prop where
  len : l.length ≤ 40
  each : ∀ x ∈ l, x.p.size ≤ 3000 ∧ x.b.length ≤ 3000
theorem smallL_tiny {l : List FX} (h : smallL l = true) : TinyX l := by
  unfold smallL at h
  simp only [Bool.and_eq_true, decide_eq_true_eq] at h
  exact ⟨h.1, fun x hx => by have := longN_mem hx; omega⟩
theorem TinyX.small {l : List FX} (h : TinyX l) : SmallX l := ⟨by have := h.len; omega, fun x hx => by have := h.each x hx; omega⟩
theorem TinyX.paths {l : List FX} (h : TinyX l) : ∀ x ∈ l, x.p.size ≤ 1000000 := fun x hx => (h.small.2 x hx).1

theorem diffT_from : ∀ (a b : List Fl), ∀ d ∈ diffT a b, (∃ x ∈ a, d.p = x.1 ∧ d.b = []) ∨ ∃ y ∈ b, d.p = y.1 ∧ d.b = y.2
  | [], [] => fun d hd => by simp [diffT] at hd
  | [], y :: b => fun d hd => by
    simp only [diffT, List.mem_cons] at hd
    rcases hd with rfl | hd
    · exact .inr ⟨y, by simp, rfl, rfl⟩
    · exact (diffT_from [] b d hd).imp (fun ⟨x, h, _⟩ => by cases h) fun ⟨z, h, h2⟩ => ⟨z, by simp [h], h2⟩
  | x :: a, [] => fun d hd => by
    simp only [diffT, List.mem_cons] at hd
    rcases hd with rfl | hd
    · exact .inl ⟨x, by simp, rfl, rfl⟩
    · exact (diffT_from a [] d hd).imp (fun ⟨z, h, h2⟩ => ⟨z, by simp [h], h2⟩) fun ⟨_, h, _⟩ => by cases h
  | x :: a, y :: b => fun d hd => by
    rw [diffT] at hd
    have up1 := fun h => (diffT_from a b d h).imp (fun ⟨z, h, h2⟩ => (⟨z, List.mem_cons_of_mem _ h, h2⟩ : ∃ z ∈ x :: a, d.p = z.1 ∧ d.b = [])) fun ⟨z, h, h2⟩ => (⟨z, List.mem_cons_of_mem _ h, h2⟩ : ∃ z ∈ y :: b, d.p = z.1 ∧ d.b = z.2)
    split at hd
    · split at hd
      · exact up1 hd
      · rcases List.mem_cons.1 hd with rfl | hd
        · exact .inr ⟨y, by simp, rfl, rfl⟩
        · exact up1 hd
    · split at hd
      · rcases List.mem_cons.1 hd with rfl | hd
        · exact .inl ⟨x, by simp, rfl, rfl⟩
        · exact (diffT_from a (y :: b) d hd).imp (fun ⟨z, h, h2⟩ => ⟨z, List.mem_cons_of_mem _ h, h2⟩) id
      · rcases List.mem_cons.1 hd with rfl | hd
        · exact .inr ⟨y, by simp, rfl, rfl⟩
        · exact (diffT_from (x :: a) b d hd).imp id fun ⟨z, h, h2⟩ => ⟨z, List.mem_cons_of_mem _ h, h2⟩
termination_by a b => a.length + b.length
theorem diffT_len : ∀ (a b : List Fl), (diffT a b).length ≤ a.length + b.length
  | [], [] => by simp [diffT]
  | [], y :: b => by have := diffT_len [] b; simp only [diffT, List.length_cons, List.length_nil] at *; omega
  | x :: a, [] => by have := diffT_len a []; simp only [diffT, List.length_cons, List.length_nil] at *; omega
  | x :: a, y :: b => by
    have h1 := diffT_len a b
    have h2 := diffT_len a (y :: b)
    have h3 := diffT_len (x :: a) b
    rw [diffT]
    simp only [List.length_cons] at *
    split
    · split
      · omega
      · rw [List.length_cons]; omega
    · split <;> (rw [List.length_cons]; omega)
termination_by a b => a.length + b.length

/-- What Diff answered of two small trees is a small row of changes. -/
theorem diff_small {a b : List FX} {l : List DX} (ha : TinyX a) (hb : TinyX b) (h : l.map DX.dl = diffT (flsX a) (flsX b)) : l.length ≤ 80 ∧ ∀ x ∈ l, x.p.size ≤ 3000 ∧ x.b.length ≤ 3000 := by
  have hn := diffT_len (flsX a) (flsX b)
  rw [← h, List.length_map, flsX_length, flsX_length] at hn
  refine ⟨by have := ha.len; have := hb.len; omega, fun x hx => ?_⟩
  have hm : x.dl ∈ diffT (flsX a) (flsX b) := by rw [← h]; exact List.mem_map.2 ⟨x, hx, rfl⟩
  have hp : x.p.size = x.dl.p.length := Array.length_toList.symm
  have hf : ∀ {c : List FX}, TinyX c → ∀ y ∈ flsX c, y.1.length ≤ 3000 ∧ y.2.length ≤ 3000 := fun hc y hy => by
    obtain ⟨z, hz, rfl⟩ := List.mem_map.1 hy
    have := hc.each z hz
    exact ⟨by show z.p.data.toList.length ≤ 3000; rw [Array.length_toList]; exact this.1, this.2⟩
  rcases diffT_from _ _ _ hm with ⟨y, hy, e1, e2⟩ | ⟨y, hy, e1, e2⟩
  · have := hf ha y hy
    exact ⟨by rw [hp, e1]; exact this.1, by show x.dl.b.length ≤ 3000; rw [e2]; simp⟩
  · have := hf hb y hy
    exact ⟨by rw [hp, e1]; exact this.1, by show x.dl.b.length ≤ 3000; rw [e2]; exact this.2⟩
end Go.Proofs.YtckpojkbcbogbaaDoor
namespace Go.Proofs.YtckpojkbcbogbaaDoor
open Go Go.RowKit Go.Shelf Go.Proofs

theorem dcells_append (a b : List DX) : dcells (a ++ b) = dcells a ++ dcells b := by unfold dcells; rw [List.flatMap_append]
theorem dcells_one (l : List DX) : ∀ u ∈ dcells l, u.oneCell' = true := by
  intro u hu
  unfold dcells at hu
  obtain ⟨x, _, hx⟩ := List.mem_flatMap.1 hu
  unfold DX.cs at hx
  simp only [List.mem_cons, List.mem_nil_iff, or_false] at hx
  rcases hx with rfl | rfl | rfl <;> rfl
theorem TinyX.of_fls {l m : List FX} (h : flsX l = flsX m) (hm : TinyX m) : TinyX l := by
  have hn := congrArg List.length h
  rw [flsX_length, flsX_length] at hn
  refine ⟨by rw [hn]; exact hm.len, fun x hx => ?_⟩
  have hx2 : x.fl ∈ flsX m := by rw [← h]; exact List.mem_map.2 ⟨x, hx, rfl⟩
  obtain ⟨y, hy, e⟩ := List.mem_map.1 hx2
  have hh := hm.each y hy
  have e1 : y.p.data.toList = x.p.data.toList := congrArg (·.1) e
  have e2 : y.b = x.b := congrArg (·.2) e
  have e3 := congrArg List.length e1
  rw [Array.length_toList, Array.length_toList] at e3
  have e4 : y.p.size = x.p.size := e3
  rw [← e4, ← e2]; exact hh
end Go.Proofs.YtckpojkbcbogbaaDoor
namespace Go.Proofs.YtckpojkbcbogbaaDoor
open Go Go.RowKit Go.Shelf Go.Proofs

/-- At most n files, no path and no bytes longer than m. -/
structure SizeX (n m : Nat) (l : List FX) : Prop where
  len : l.length ≤ n
  each : ∀ x ∈ l, x.p.size ≤ m ∧ x.b.length ≤ m
theorem TinyX.sized {l : List FX} (h : TinyX l) : SizeX 40 3000 l := ⟨h.len, h.each⟩
theorem SizeX.small {n m : Nat} {l : List FX} (h : SizeX n m l) (hn : n ≤ 100000) (hm : m ≤ 1000000) : SmallX l := ⟨Nat.le_trans h.len hn, fun x hx => ⟨Nat.le_trans (h.each x hx).1 hm, Nat.le_trans (h.each x hx).2 hm⟩⟩
theorem SizeX.mono {n m k j : Nat} {l : List FX} (h : SizeX n m l) (hn : n ≤ k) (hm : m ≤ j) : SizeX k j l := ⟨Nat.le_trans h.len hn, fun x hx => ⟨Nat.le_trans (h.each x hx).1 hm, Nat.le_trans (h.each x hx).2 hm⟩⟩
theorem SizeX.put {n m : Nat} {l : List FX} (h : SizeX n m l) {f : FX} (hp : f.p.size ≤ m) (hb : f.b.length ≤ m) : SizeX (n + 1) m (putX l f) := by
  have h1 := putX_le l f
  refine ⟨by have := h.len; omega, fun x hx => ?_⟩
  rcases putX_sub x hx with rfl | hx
  · exact ⟨hp, hb⟩
  · exact h.each x hx
theorem SizeX.keep {n m : Nat} {l : List FX} (h : SizeX n m l) (s : ByteArray) : SizeX n m (keepX l s) := ⟨Nat.le_trans (List.length_filter_le _ _) h.len, fun x hx => h.each x (keepX_sub x hx)⟩
theorem SizeX.of_fls {n m : Nat} {l k : List FX} (h : flsX l = flsX k) (hm : SizeX n m k) : SizeX n m l := by
  have hn := congrArg List.length h
  rw [flsX_length, flsX_length] at hn
  refine ⟨by rw [hn]; exact hm.len, fun x hx => ?_⟩
  have hx2 : x.fl ∈ flsX k := by rw [← h]; exact List.mem_map.2 ⟨x, hx, rfl⟩
  obtain ⟨y, hy, e⟩ := List.mem_map.1 hx2
  have hh := hm.each y hy
  have e1 : y.p.data.toList = x.p.data.toList := congrArg (·.1) e
  have e2 : y.b = x.b := congrArg (·.2) e
  have e3 := congrArg List.length e1
  rw [Array.length_toList, Array.length_toList] at e3
  have e4 : y.p.size = x.p.size := e3
  rw [← e4, ← e2]; exact hh
theorem SizeX.of_put {n m : Nat} {l k : List FX} {f : FX} (h : flsX l = putT (flsX k) f.fl) (hk : SizeX n m k) (hp : f.p.size ≤ m) (hb : f.b.length ≤ m) : SizeX (n + 1) m l := SizeX.of_fls (by rw [h, putX_fls]) (hk.put hp hb)
theorem SizeX.of_drop {n m : Nat} {l k : List FX} {s : ByteArray} (h : flsX l = dropT (flsX k) s.data.toList) (hk : SizeX n m k) : SizeX n m l := SizeX.of_fls (by rw [h, keepX_fls]) (hk.keep s)

/-- A block that holds a file's two cells. -/
structure BoxF (w : World) (g : Nat) (f : FX) : Prop where
  lt : g < w.heap.size
  c0 : w.cell? ⟨g, 0, none⟩ = some (.string f.p)
  c1 : w.cell? ⟨g, 1, none⟩ = some (.slice f.A f.b.length f.c)
theorem BoxF.below {w w' : World} {g : Nat} {f : FX} (h : BoxF w g f) (hb : Below w.heap.size w w') : BoxF w' g f :=
  ⟨Nat.lt_of_lt_of_le h.lt hb.size, (hb.cell (p := ⟨g, 0, none⟩) h.lt).trans h.c0, (hb.cell (p := ⟨g, 1, none⟩) h.lt).trans h.c1⟩
theorem BoxF.new (w : World) (f : FX) (t : TypeId) : BoxF (w.alloc (.cells #[.string f.p, .slice f.A f.b.length f.c] t)) w.heap.size f := by
  have h := heap_alloc_new w (.cells #[.string f.p, .slice f.A f.b.length f.c] t)
  exact ⟨(Array.getElem?_eq_some_iff.1 h).1, cell_of_row _ _ 0 _ _ _ h, cell_of_row _ _ 1 _ _ _ h⟩
theorem below_box (w : World) (o : Obj) : Below w.heap.size w (w.alloc o) := (Below.refl _ _).alloc (Nat.le_refl _) _
theorem str_eq_of {a b : ByteArray} (h : (a.toList == b.toList) = true) : a = b := by
  rw [beq_iff_eq, ByteArray.toList_eq, ByteArray.toList_eq] at h
  cases a; cases b
  simpa using h
theorem str_ne_of {a b : ByteArray} (h : (a.toList == b.toList) = false) : a.data.toList ≠ b.data.toList := by
  rw [beq_eq_false_iff_ne, ByteArray.toList_eq, ByteArray.toList_eq] at h
  exact h
end Go.Proofs.YtckpojkbcbogbaaDoor
namespace Go.Proofs.YtckpojkbcbogbaaDoor
open Go Go.RowKit Go.Shelf Go.Proofs
attribute [local go_sem] Oper.semAt_some

/-- One file more in a row of the call's own. -/
theorem wpList_append_file {ops : Array Oper} {rest : List Oper} {o : Oper} {a : Act} {w : World} {Q : Exit → Act → World → Prop} (hgd : o.guard = none) (s x : Operand)
    (ho : o.op = .call { callee := .builtin .append, args := #[s, x], argTypes := #[23, 23] })
    (base : Nat) (v : Value) (l : List FX) (f : FX) (g c : Nat) (hs : a.eval s = v) (hown : FilesOwn base w v l) (hx : a.eval x = .slice (some ⟨g, 0, none⟩) 1 c) (hb : BoxF w g f) (hl : l.length ≤ 100000) (hbase : base ≤ w.heap.size)
    (h : ∀ v' w', FilesOwn base w' v' (l ++ [f]) → w.grownBy w' v.ownBlock → wpList Tryd.prog ops Q rest (a.put o.dst v') w') : wpList Tryd.prog ops Q (o :: rest) a w := by
  obtain ⟨i0, hi, hz0, hz1, hz2⟩ := info_parts file_info
  refine wpList_append_own w hgd s x 23 ho base 49 i0 (.agg #[.string ⟨#[]⟩, .slice none 0 0]) 2 40 Tryd.underlying23 hi hz0 hz1 hz2 rfl (by decide) v l.length (fcells l) hs hown ⟨g, 0, none⟩ 1 c f.cs hx rfl ?_ ?_ (by unfold maxLen; omega) (by omega) hbase fun v' w' h1 h2 _ => h v' w' ?_ h2
  · intro j u hu
    rw [Go.WideShapes.add_plain, Nat.zero_add]
    match j, hu with
    | 0, hu => obtain rfl : Value.string f.p = u := by simpa [FX.cs] using hu
               exact hb.c0
    | 1, hu => obtain rfl : Value.slice f.A f.b.length f.c = u := by simpa [FX.cs] using hu
               exact hb.c1
    | j + 2, hu => simp [FX.cs] at hu
  · intro u hu
    simp only [FX.cs, List.mem_cons, List.mem_nil_iff, or_false] at hu
    rcases hu with rfl | rfl <;> rfl
  · show World.ownsRow _ _ _ _ _ _ _
    rw [List.length_append, fcells_append]; exact h1
/-- What a call of the document's answers, other files' bytes shared: a row of its own. -/
def RefPost (w : World) (l : List FX) (e : Ending) (w' : World) : Prop := ∃ v', e = .returned v' ∧ FilesOwn w.heap.size w' v' l ∧ Below w.heap.size w w'

set_option maxHeartbeats 2000000 in
theorem reffind_any (l : List FX) (A : Option Addr) (c : Nat) (s : ByteArray) (w : World) (h : TreeAt w A c l) (hl : l.length ≤ 100000) :
    Calls Tryd.prog 47 #[.slice A l.length c, .string s] w fun e w' => e = .returned (.int .i64 (placeX l s)) ∧ Below w.heap.size w w' := by
  have HT := Lib.hid h; clear h
  go_enter Tryd.func47, Tryd.ntmps47
  go_wp2_with fail
  go_loopw [5] (fun i wr => ∃ (k : Nat), k ≤ l.length ∧ i = .int .i64 k ∧ (∀ j y, j < k → l[j]? = some y → (y.p.toList == s.toList) = false) ∧ Below w.heap.size w wr) (fun i _ => l.length - (intOf i).toNat)
  case atStart => exact ⟨0, Nat.zero_le _, rfl, fun _ _ h => absurd h (Nat.not_lt_zero _), Below.refl _ _⟩
  case round =>
    obtain ⟨k, hk, rfl, hno, hbr⟩ := hrel
    by_cases h1 : k < l.length
    · obtain ⟨x, hx⟩ : ∃ x, l[k]? = some x := ⟨_, List.getElem?_eq_getElem h1⟩
      obtain ⟨b, o, hA, hr⟩ := HT.out.row (by omega)
      subst hA
      obtain ⟨c1, _⟩ := (hr.keep fun hb => hbr.block _ hb) k x hx
      have k1 : (k : Int) < (l.length : Int) := by omega
      have HX := Lib.hid hx; clear hx
      have HNO := Lib.hid hno; clear hno
      clear hr
      cases hq : (x.p.toList == s.toList) with
      | true =>
        have hp : placeX l s = (k : Int) := idxF_hit HX.out hq HNO.out
        have HP := Lib.hid hp; clear hp
        go_wp2_with fail
        go_ret
        exact ⟨by rw [HP.out]; rfl, hbr⟩
      | false =>
        go_wp2_with fail
        go_roundw
        case rel => exact ⟨k + 1, by omega, by go_num, fun j y hj hy => by
          rcases Nat.lt_or_eq_of_le (Nat.lt_succ_iff.1 hj) with hj | rfl
          · exact HNO.out j y hj hy
          · have := HX.out; rw [hy] at this; cases this; exact hq, hbr⟩
        case measure => simp [intOf]; omega
    · obtain rfl : k = l.length := by omega
      have hp : placeX l s = -1 := idxF_miss fun y hy => by obtain ⟨j, hj, rfl⟩ := List.mem_iff_getElem.1 hy; exact hno j _ hj (List.getElem?_eq_getElem hj)
      have HP := Lib.hid hp; clear hp
      clear hno
      go_wp2_with fail
      go_ret
      exact ⟨by rw [HP.out]; rfl, hbr⟩

theorem keepX_step {l : List FX} {k : Nat} {x : FX} (s : ByteArray) (hx : l[k]? = some x) : keepX (l.take (k + 1)) s = keepX (l.take k) s ++ (if (x.p.toList == s.toList) = true then [] else [x]) := by
  unfold keepX
  rw [List.take_add_one, hx, List.filter_append]
  congr 1
  show [x].filter _ = _
  rw [List.filter_cons]
  cases x.p.toList == s.toList <;> rfl

set_option maxRecDepth 100000 in
set_option maxHeartbeats 4000000 in
theorem refdrop_any (l : List FX) (A : Option Addr) (c : Nat) (s : ByteArray) (w : World) (h : TreeAt w A c l) (hl : l.length ≤ 100000) :
    Calls Tryd.prog 48 #[.slice A l.length c, .string s] w (RefPost w (keepX l s)) := by
  have HT := Lib.hid h; clear h
  go_enter Tryd.func48, Tryd.ntmps48
  go_wp2_with fail
  go_loopw [5, 6] (fun v i wr => ∃ (k : Nat), k ≤ l.length ∧ i = .int .i64 k ∧ FilesOwn w.heap.size wr v (keepX (l.take k) s) ∧ Below w.heap.size w wr) (fun _ i _ => l.length - (intOf i).toNat)
  case atStart => exact ⟨0, Nat.zero_le _, rfl, World.ownsRow_nil _ _ _ _, Below.refl _ _⟩
  case round =>
    obtain ⟨k, hk, rfl, hrow, hbr⟩ := hrel
    obtain ⟨Av, cv, rfl⟩ := hrow.slice
    have hW := hbr.size
    by_cases h1 : k < l.length
    · obtain ⟨x, hx⟩ : ∃ x, l[k]? = some x := ⟨_, List.getElem?_eq_getElem h1⟩
      obtain ⟨b, o, hA, hr⟩ := HT.out.row (by omega)
      subst hA
      obtain ⟨c1, c2⟩ := (hr.keep fun hb => hbr.block _ hb) k x hx
      have k1 : (k : Int) < (l.length : Int) := by omega
      have hlen : (keepX (l.take k) s).length ≤ 100000 := Nat.le_trans (List.length_filter_le _ _) (by rw [List.length_take]; omega)
      have hsn := keepX_step s hx
      have HSN := Lib.hid hsn; clear hsn
      have HX := Lib.hid hx; clear hx
      have HR := Lib.hid hrow; clear hrow
      clear hr
      cases hq : (x.p.toList == s.toList) with
      | true =>
        have hn : keepX (l.take (k + 1)) s = keepX (l.take k) s := by rw [HSN.out, if_pos hq, List.append_nil]
        have HN := Lib.hid hn; clear hn
        go_wp2_with fail
        go_roundw
        case rel => exact ⟨k + 1, by omega, by go_num, by rw [HN.out]; exact HR.out, hbr⟩
        case measure => simp [intOf]; omega
      | false =>
        have hn : keepX (l.take (k + 1)) s = keepX (l.take k) s ++ [x] := by rw [HSN.out, if_neg (by rw [hq]; decide)]
        have HN := Lib.hid hn; clear hn
        go_wp2_with (at_builtin; refine wpList_append_file rfl _ _ rfl w.heap.size _ (keepX (l.take k) s) x wr.heap.size 1 rfl (HR.out.below (below_box _ _)) rfl (BoxF.new _ _ _) hlen (Nat.le_trans hW (below_box _ _).size) ?_; intro v' w' hown' hgrow; obtain ⟨A', c', rfl⟩ := hown'.slice; rw [List.length_append, List.length_singleton] at hown')
        go_roundw
        case rel => exact ⟨k + 1, by omega, by go_num, by rw [HN.out]; exact hown', (hbr.trans ((Below.refl _ _).alloc hW _)).grown hgrow (Nat.le_trans hW (below_box _ _).size) fun j ej => (HR.out.row ej).1⟩
        case measure => simp [intOf]; omega
    · obtain rfl : k = l.length := by omega
      rw [List.take_length] at *
      go_wp2_with fail
      go_ret
      exact ⟨_, rfl, hrow, hbr⟩

/-- What Put has laid behind k files of the list without the path. -/
def putTo (L : List FX) (f : FX) (k : Nat) : List FX := if k ≤ aboveX L f.p then L.take k else L.take (aboveX L f.p) ++ f :: (L.drop (aboveX L f.p)).take (k - aboveX L f.p)
theorem aboveX_front {L : List FX} {s : ByteArray} {j : Nat} {y : FX} (hj : j < aboveX L s) (hy : L[j]? = some y) : ltB s.data.toList y.p.data.toList = false := by
  unfold aboveX at hj
  have h1 := (List.takeWhile_prefix (l := L) fun x => !ltB s.data.toList x.p.data.toList).getElem hj
  have h3 := List.all_eq_true.1 (List.all_takeWhile (l := L) (p := fun x => !ltB s.data.toList x.p.data.toList)) _ (List.getElem_mem hj)
  rw [h1] at h3
  obtain ⟨_, e⟩ := List.getElem?_eq_some_iff.1 hy
  rw [e] at h3
  simpa using h3
theorem aboveX_at {L : List FX} {s : ByteArray} {y : FX} (hy : L[aboveX L s]? = some y) : ltB s.data.toList y.p.data.toList = true := by
  have h := dropWhile_head (fun x : FX => !ltB s.data.toList x.p.data.toList) L
  have e : L.drop (aboveX L s) = L.dropWhile (fun x : FX => !ltB s.data.toList x.p.data.toList) := by
    unfold aboveX
    conv => lhs; arg 2; rw [← List.takeWhile_append_dropWhile (p := fun x : FX => !ltB s.data.toList x.p.data.toList) (l := L)]
    rw [List.drop_left]
  have h2 : L.dropWhile (fun x : FX => !ltB s.data.toList x.p.data.toList) = y :: L.drop (aboveX L s + 1) := by
    rw [← e]
    obtain ⟨hl, rfl⟩ := List.getElem?_eq_some_iff.1 hy
    exact List.drop_eq_getElem_cons hl
  have := h _ _ h2
  simpa using this
theorem put_zero (L : List FX) (f : FX) : putTo L f 0 = [] := by unfold putTo; rw [if_pos (Nat.zero_le _)]; rfl
theorem put_under {L : List FX} {f x : FX} {k : Nat} (hx : L[k]? = some x) (hk : k ≤ aboveX L f.p) (hu : ltB f.p.data.toList x.p.data.toList = false) : k < aboveX L f.p ∧ putTo L f (k + 1) = putTo L f k ++ [x] := by
  have h1 : k < aboveX L f.p := by
    rcases Nat.lt_or_eq_of_le hk with h | h
    · exact h
    · rw [h] at hx
      rw [aboveX_at hx] at hu; cases hu
  refine ⟨h1, ?_⟩
  unfold putTo
  rw [if_pos hk, if_pos (show k + 1 ≤ _ from h1), List.take_add_one, hx]; rfl
theorem put_above {L : List FX} {f x : FX} {k : Nat} (hx : L[k]? = some x) (hk : k ≤ aboveX L f.p) (hu : ltB f.p.data.toList x.p.data.toList = true) : k = aboveX L f.p ∧ putTo L f (k + 1) = (putTo L f k ++ [f]) ++ [x] := by
  have h1 : k = aboveX L f.p := by
    rcases Nat.lt_or_eq_of_le hk with h | h
    · rw [aboveX_front h hx] at hu; cases hu
    · exact h
  refine ⟨h1, ?_⟩
  unfold putTo
  rw [if_pos hk, if_neg (by omega), ← h1, show k + 1 - k = 1 from by omega]
  obtain ⟨hl, rfl⟩ := List.getElem?_eq_some_iff.1 hx
  rw [List.drop_eq_getElem_cons hl]
  simp only [List.take_succ_cons, List.take_zero, List.append_assoc, List.cons_append, List.nil_append]
theorem put_laid {L : List FX} {f x : FX} {k : Nat} (hx : L[k]? = some x) (hk : aboveX L f.p < k) : putTo L f (k + 1) = putTo L f k ++ [x] := by
  unfold putTo
  rw [if_neg (by omega), if_neg (by omega), show k + 1 - aboveX L f.p = (k - aboveX L f.p) + 1 from by omega, List.take_add_one, List.getElem?_drop, show aboveX L f.p + (k - aboveX L f.p) = k from by omega, hx]
  simp
theorem put_last {L : List FX} {f : FX} (hk : L.length ≤ aboveX L f.p) : putTo L f L.length ++ [f] = insX L (aboveX L f.p) f := by
  have h1 := aboveX_le L f.p
  have h2 : aboveX L f.p = L.length := by omega
  unfold putTo insX
  rw [if_pos hk, h2, List.take_length, List.drop_length]
theorem put_done {L : List FX} {f : FX} (hk : aboveX L f.p < L.length) : putTo L f L.length = insX L (aboveX L f.p) f := by
  unfold putTo insX
  rw [if_neg (by omega), List.take_of_length_le (l := L.drop (aboveX L f.p)) (by rw [List.length_drop]; omega)]
theorem putTo_le (L : List FX) (f : FX) (k : Nat) : (putTo L f k).length ≤ L.length + 1 := by
  unfold putTo
  split
  · rw [List.length_take]; omega
  · rw [List.length_append, List.length_cons, List.length_take, List.length_take, List.length_drop]; omega
theorem putTo_sub {L : List FX} {f : FX} {k : Nat} : ∀ x ∈ putTo L f k, x = f ∨ x ∈ L := fun x hx => by
  unfold putTo at hx
  split at hx
  · exact .inr (List.mem_of_mem_take hx)
  · rcases List.mem_append.1 hx with h | h
    · exact .inr (List.mem_of_mem_take h)
    · rcases List.mem_cons.1 h with h | h
      · exact .inl h
      · exact .inr (List.mem_of_mem_drop (List.mem_of_mem_take h))
theorem keepX_ne {l : List FX} {s : ByteArray} {x : FX} (h : x ∈ keepX l s) : (x.p.toList == s.toList) = false := by
  have := (List.mem_filter.1 h).2
  simpa using this

set_option maxRecDepth 100000 in
set_option maxHeartbeats 8000000 in
theorem refput_any (l : List FX) (A : Option Addr) (c : Nat) (f : FX) (w : World) (h : TreeAt w A c l) (hl : l.length ≤ 90000) :
    Calls Tryd.prog 20 #[.slice A l.length c, .agg #[.string f.p, .slice f.A f.b.length f.c]] w (RefPost w (putX l f)) := by
  obtain ⟨W, hW⟩ : ∃ W, w.alloc (.cells #[.string f.p, .slice f.A f.b.length f.c] 49) = W := ⟨_, rfl⟩
  have hb0 : Below w.heap.size w W := by rw [← hW]; exact below_box _ _
  have xf0 : BoxF W w.heap.size f := by rw [← hW]; exact BoxF.new w f _
  have HD := refdrop_any l A c f.p W (h.below hb0) (by omega)
  have kf0 := xf0.c0
  go_enter Tryd.func20, Tryd.ntmps20
  go_wp2_with fail
  clear hW
  refine HD.mono ?_
  rintro e w1 ⟨v1, rfl, h1, hq1⟩
  obtain ⟨A1, c1, rfl⟩ := h1.slice
  have hT1 := (h1.tree fun x hx => ((h.below hb0).files x (keepX_sub x hx)).below hq1).2
  have hb1 := hb0.trans (hq1.mono hb0.size)
  have xf1 := xf0.below hq1
  obtain ⟨L, hL⟩ : ∃ L, keepX l f.p = L := ⟨_, rfl⟩
  have hne : ∀ x ∈ L, (x.p.toList == f.p.toList) = false := fun x hx => keepX_ne (by rw [hL]; exact hx)
  have hput : putX l f = insX L (aboveX L f.p) f := by unfold putX; rw [hL]
  have hLl : L.length ≤ 90000 := by rw [← hL]; exact Nat.le_trans (List.length_filter_le _ _) hl
  rw [hL] at hT1 ⊢
  have HPUT := Lib.hid hput
  have HNE := Lib.hid hne; clear hne
  have HT := Lib.hid hT1; clear hT1
  have HB1 := Lib.hid hb1; clear hb1
  have XF := Lib.hid xf1; clear xf1
  clear HD h1 hq1 kf0 xf0 h hb0 hput hL hl
  go_wp2_with fail
  go_loopw [6, 7, 8] (fun v b i wr => ∃ (k : Nat), k ≤ L.length ∧ i = .int .i64 k ∧ b = .bool (decide (aboveX L f.p < k)) ∧ FilesOwn w1.heap.size wr v (putTo L f k) ∧ Below w1.heap.size w1 wr) (fun _ _ i _ => L.length - (intOf i).toNat)
  case atStart => exact ⟨0, Nat.zero_le _, rfl, by rw [decide_eq_false (Nat.not_lt_zero _)], by rw [put_zero]; exact World.ownsRow_nil _ _ _ _, Below.refl _ _⟩
  case round =>
    obtain ⟨k, hk, rfl, rfl, hrow, hbr⟩ := hrel
    obtain ⟨Av, cv, rfl⟩ := hrow.slice
    have hW := hbr.size
    have hlen := putTo_le L f k
    have xf := XF.out.below hbr
    have kf0 := xf.c0
    have kf1 := xf.c1
    by_cases h1 : k < L.length
    · obtain ⟨x, hx⟩ : ∃ x, L[k]? = some x := ⟨_, List.getElem?_eq_getElem h1⟩
      obtain ⟨b, o, hA, hr⟩ := (HT.out.below hbr).row (by omega)
      subst hA
      obtain ⟨c1, c2⟩ := hr k x hx
      have k1 : (k : Int) < (L.length : Int) := by omega
      have wk : IntKind.i64.wrap (k : Int) = (k : Int) := IntWalk.i64_in _ (by omega)
      have hq2 := HNE.out x (List.mem_of_getElem? hx)
      have HX := Lib.hid hx; clear hx
      have HR := Lib.hid hrow; clear hrow
      have XR := Lib.hid xf; clear xf
      have HRd : FilesOwn w1.heap.size wr.drew (.slice Av (putTo L f k).length cv) (putTo L f k) := HR.out.below (below_drew1 wr)
      have HBR := Lib.hid hbr; clear hbr
      clear hr
      cases hd : decide (aboveX L f.p < k) with
      | true =>
        have hn := put_laid (f := f) HX.out (of_decide_eq_true hd)
        have HN := Lib.hid hn; clear hn
        have hd2 : decide (aboveX L f.p < k + 1) = true := decide_eq_true (by have := of_decide_eq_true hd; omega)
        have HD2 := Lib.hid hd2; clear hd2
        clear hd
        go_wp2_with fail
        go_region
        go_wp2_with (at_builtin; refine wpList_append_file rfl _ _ rfl w1.heap.size _ (putTo L f k) x wr.heap.size 1 rfl (HRd.below (below_box wr.drew _)) rfl (BoxF.new wr.drew _ _) (by omega) (Nat.le_trans hW (below_box wr _).size) ?_; intro v' w' hown' hgrow; obtain ⟨A', c', rfl⟩ := hown'.slice; rw [List.length_append, List.length_singleton] at hown')
        go_roundw
        case rel => exact ⟨k + 1, by omega, by go_num, by rw [HD2.out], by rw [HN.out]; exact hown', ((HBR.out.drew).trans ((Below.refl _ wr.drew).alloc hW _)).grown hgrow (Nat.le_trans hW (below_box wr _).size) fun j ej => (HR.out.row ej).1⟩
        case measure => simp [intOf]; omega
      | false =>
        have hkm : k ≤ aboveX L f.p := by have := of_decide_eq_false hd; omega
        cases hu : ltB f.p.data.toList x.p.data.toList with
        | false =>
          have hq1 : Op.bytesLess x.p.toList f.p.toList = true := by
            rw [ByteArray.toList_eq, ByteArray.toList_eq]
            cases e : Op.bytesLess x.p.data.toList f.p.data.toList with
            | true => rfl
            | false =>
              have := ltB_tri _ _ hu e
              rw [ByteArray.toList_eq, ByteArray.toList_eq, this] at hq2
              simp at hq2
          obtain ⟨hlt, hn⟩ := put_under HX.out hkm hu
          have HN := Lib.hid hn; clear hn
          have hd2 : decide (aboveX L f.p < k + 1) = false := decide_eq_false (by omega)
          have HD2 := Lib.hid hd2; clear hd2
          clear hd hkm hu
          go_wp2_with fail
          go_region
          go_wp2_with (at_builtin; refine wpList_append_file rfl _ _ rfl w1.heap.size _ (putTo L f k) x wr.heap.size 1 rfl (HRd.below (below_box wr.drew _)) rfl (BoxF.new wr.drew _ _) (by omega) (Nat.le_trans hW (below_box wr _).size) ?_; intro v' w' hown' hgrow; obtain ⟨A', c', rfl⟩ := hown'.slice; rw [List.length_append, List.length_singleton] at hown')
          go_roundw
          case rel => exact ⟨k + 1, by omega, by go_num, by rw [HD2.out], by rw [HN.out]; exact hown', ((HBR.out.drew).trans ((Below.refl _ wr.drew).alloc hW _)).grown hgrow (Nat.le_trans hW (below_box wr _).size) fun j ej => (HR.out.row ej).1⟩
          case measure => simp [intOf]; omega
        | true =>
          have hq1 : Op.bytesLess x.p.toList f.p.toList = false := by rw [ByteArray.toList_eq, ByteArray.toList_eq]; exact ltB_asymm _ _ hu
          obtain ⟨hlt, hn⟩ := put_above HX.out hkm hu
          have HN := Lib.hid hn; clear hn
          have hd2 : decide (aboveX L f.p < k + 1) = true := decide_eq_true (by omega)
          have HD2 := Lib.hid hd2; clear hd2
          clear hd hkm hu hlt
          go_wp2_with fail
          go_region
          go_wp2_with (at_builtin; first | (refine wpList_append_file rfl _ _ rfl w1.heap.size _ (putTo L f k) f wr.heap.size 1 rfl (HRd.below (below_box wr.drew _)) rfl (BoxF.new wr.drew _ _) (by omega) (Nat.le_trans hW (below_box wr _).size) ?_; intro v2 w2 hown2 hgrow2; obtain ⟨A2, c2', rfl⟩ := hown2.slice; rw [List.length_append, List.length_singleton] at hown2; have hb2 := ((HBR.out.drew).trans ((Below.refl _ wr.drew).alloc hW _)).grown hgrow2 (Nat.le_trans hW (below_box wr _).size) (fun j ej => (HR.out.row ej).1); obtain ⟨_, _, hA2, hr2⟩ := (HT.out.below hb2).row (by omega); cases hA2; obtain ⟨d1, d2⟩ := hr2 k x HX.out; clear c1 hr2) | (refine wpList_append_file rfl _ _ rfl w1.heap.size _ (putTo L f k ++ [f]) x w2.heap.size 1 rfl (hown2.below (below_box w2 _)) rfl (BoxF.new w2 _ _) (by rw [List.length_append, List.length_singleton]; omega) (Nat.le_trans hb2.size (below_box w2 _).size) ?_; intro v3 w3 hown3 hgrow3; obtain ⟨A3, c3', rfl⟩ := hown3.slice; rw [List.length_append, List.length_append, List.length_singleton] at hown3))
          go_roundw
          case rel => exact ⟨k + 1, by omega, by go_num, by rw [HD2.out], by rw [HN.out]; exact hown3, (hb2.trans ((Below.refl _ _).alloc hb2.size _)).grown hgrow3 (Nat.le_trans hb2.size (below_box w2 _).size) fun j ej => (hown2.row ej).1⟩
          case measure => simp [intOf]; omega
    · obtain rfl : k = L.length := by omega
      cases hd : decide (aboveX L f.p < L.length) with
      | true =>
        have hn := put_done (of_decide_eq_true hd)
        have HN := Lib.hid hn; clear hn
        go_wp2_with fail
        go_ret
        have hr2 : FilesOwn w.heap.size wr (.slice Av (putTo L f L.length).length cv) (insX L (aboveX L f.p) f) := by rw [← HN.out]; exact hrow.lower HB1.out.size
        exact ⟨.slice Av (putTo L f L.length).length cv, rfl, by rw [HPUT.out]; exact hr2, HB1.out.trans (hbr.mono HB1.out.size)⟩
      | false =>
        have hn := put_last (L := L) (f := f) (by have := of_decide_eq_false hd; omega)
        have HN := Lib.hid hn; clear hn
        go_wp2_with (at_builtin; refine wpList_append_file rfl _ _ rfl w1.heap.size _ (putTo L f L.length) f wr.heap.size 1 rfl (hrow.below (below_box wr _)) rfl (BoxF.new wr _ _) (by omega) (Nat.le_trans hW (below_box wr _).size) ?_; intro v2 w2 hown2 hgrow2)
        go_ret
        rw [HN.out] at hown2
        exact ⟨v2, rfl, by rw [HPUT.out]; exact hown2.lower HB1.out.size, HB1.out.trans (((hbr.trans ((Below.refl _ _).alloc hW _)).grown hgrow2 (Nat.le_trans hW (below_box wr _).size) fun j ej => (hrow.row ej).1).mono HB1.out.size)⟩
end Go.Proofs.YtckpojkbcbogbaaDoor
