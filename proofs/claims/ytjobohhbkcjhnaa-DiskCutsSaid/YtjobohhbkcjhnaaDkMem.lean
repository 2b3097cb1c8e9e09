/-
  Disks in memory: whose block is whose ('who': 0 is nobody's); what turns and what stays; an area, areas, a disk.
-/
import Derived.Test.YtjobohhbkcjhnaaDkBase
namespace Go.Proofs.Ytjobohhbkcjhnaa
open Go Go.RowKit Go.Shelf Go.Proofs

theorem List.set_eq_of_getElem? {α : Type} : ∀ (l : List α) (i : Nat) {x : α}, l[i]? = some x → l.set i x = l
  | [], _, _, _ => rfl
  | y :: r, 0, x, h => by cases h; rfl
  | y :: r, i + 1, x, h => by
    have : r[i]? = some x := by simpa using h
    rw [List.set_cons_succ, List.set_eq_of_getElem? r i this]
theorem append_alike {P : Program} (w : World) (t t' ty e : TypeId) (ht : P.underlying t = some (.slice e)) (ht' : P.underlying t' = some (.slice e)) (A B : Option Addr) (n c m d : Nat) : (Builtin.append_ #[t, t'] ty #[.slice A n c, .slice B m d]).run P w = (Builtin.append_ #[t, t] ty #[.slice A n c, .slice B m d]).run P w := by
  simp [Builtin.append_, run_underlying ht, run_underlying ht']
/-- append to a row of one's own: as append_alike lets it be said, an empty source too. -/
theorem run_appX {P : Program} (w : World) (base : Nat) (t t' ty e : TypeId) {z : Value} {size bytes : Nat} (hI : (P.info? e).map (fun i => (i.zero, i.size, i.bytes)) = some (some z, size, bytes)) (ht : P.underlying t = some (.slice e)) (ht' : P.underlying t' = some (.slice e))
    (hzs : z.cells.size = size) (hsz : 0 < size) {v : Value} {n : Nat} {xs : List Value} (hown : w.ownsRow base e size v n xs)
    (A : Option Addr) (m c : Nat) (news : List Value) (hl : news.length = m * size) (hA : A = none → m = 0 ∧ c = 0) (hnews : ∀ a, A = some a → ∀ j u, news[j]? = some u → w.cell? (a.add j) = some u) (h1 : ∀ u ∈ news, u.oneCell' = true)
    (h63 : n + m ≤ maxLen) (hbytes : (n + m) * bytes ≤ 140737488355328) (hbase : base ≤ w.heap.size) :
    ∃ v' w', (Builtin.append_ #[t, t'] ty #[v, .slice A m c]).run P w = .ok v' w' ∧ w'.ownsRow base e size v' (n + m) (xs ++ news) ∧ w.grownBy w' v.ownBlock ∧ (v'.ownBlock = v.ownBlock ∨ ∀ g, v'.ownBlock = some g → w.heap.size ≤ g) := by
  obtain ⟨A0, c0, hv, _⟩ := row_slice hown
  have hal := append_alike w t t' ty e ht ht' A0 A n c0 m c
  rw [← hv] at hal
  rw [hal]
  obtain ⟨i, hi, hz, h2, h3⟩ := info_parts hI
  cases A with
  | none =>
    obtain ⟨rfl, rfl⟩ := hA rfl
    obtain rfl : news = [] := List.eq_nil_of_length_eq_zero (by simpa using hl)
    refine ⟨v, w, run_append_owned_none (P := P) (w := w) base t ty e i size ht hi v n xs hown, by simpa using hown, ⟨rfl, rfl, rfl, Nat.le_refl _, fun _ _ _ => rfl⟩, .inl rfl⟩
  | some a => exact run_app_blk w base t ty e i z size bytes ht hi hz h2 h3 hzs hsz v n xs hown a m c news hl (hnews a rfl) h1 h63 hbytes hbase

/-- Bytes of one's own. -/
def OB (base : Nat) (w : World) (v : Value) (b : Bs) : Prop := w.ownsRow base 5 1 v b.length (valsB b)
theorem fr_u8 : (Try.prog.info? 5).map (fun i => (i.zero, i.size, i.bytes)) = some (some (.int .u8 0), 1, 1) := by kernel_rfl
theorem OB.nil (base : Nat) (w : World) : OB base w (.slice none 0 0) [] := World.ownsRow_nil _ _ _ _
theorem OB.sl {base : Nat} {w : World} {v : Value} {b : Bs} (h : OB base w v b) : ∃ A c, v = .slice A b.length c ∧ SlAt w A c b ∧ ∀ g o s, A = some ⟨g, o, s⟩ → v.ownBlock = some g := by
  obtain ⟨A, c, e, h1, h2, h3, h4⟩ := row_slice h
  refine ⟨A, c, e, ⟨?_, h1, h2, h3⟩, fun g o s e => (h4 g o s e).2.2⟩
  cases A with
  | none =>
    obtain rfl : b = [] := List.eq_nil_of_length_eq_zero (by have := h3 rfl; omega)
    exact BytesAt.nil _ _
  | some a =>
    obtain ⟨g, o, s⟩ := a
    obtain ⟨rfl, rfl, h5⟩ := h4 g o s rfl
    refine BytesAt.of_cells fun i x hx => ?_
    have h1 := World.ownsRow.cells h (g := g) h5 i (.int .u8 (x.toNat : Int)) (by unfold valsB; rw [List.getElem?_map, hx]; rfl)
    rwa [Go.WideShapes.add_plain] at h1
theorem OB.cut {base : Nat} {w : World} {A : Option Addr} {c : Nat} {b : Bs} (h : OB base w (.slice A b.length c) b) {k : Nat} (hk : k ≤ b.length) : OB base w (.slice A k c) (b.take k) := by
  have := row_take h hk
  unfold OB
  rw [List.length_take, Nat.min_eq_left hk, valsB_take]
  rwa [Nat.mul_one] at this
theorem sl_news {w : World} {A : Option Addr} {c : Nat} {b : Bs} (hb : SlAt w A c b) (a : Addr) (hA : A = some a) : ∀ j u, (valsB b)[j]? = some u → w.cell? (a.add j) = some u := fun j u hu => by
  unfold valsB at hu
  rw [List.getElem?_map] at hu
  obtain ⟨y, hy, rfl⟩ := Option.map_eq_some_iff.1 hu
  obtain ⟨g', o', e', hc'⟩ := hb.bytes.byte hy
  rw [hA] at e'
  cases e'
  rw [Go.WideShapes.add_plain]; exact hc'
theorem vals_one (b : Bs) : ∀ u ∈ valsB b, u.oneCell' = true := fun u hu => by
  unfold valsB at hu
  obtain ⟨y, _, rfl⟩ := List.mem_map.1 hu; rfl
/-- append of bytes to bytes of one's own. -/
theorem run_appB (w : World) (base : Nat) (t t' ty : TypeId) (ht : Try.prog.underlying t = some (.slice 5)) (ht' : Try.prog.underlying t' = some (.slice 5)) {v : Value} {l : Bs} (hown : OB base w v l) {A : Option Addr} {c : Nat} {b : Bs} (hb : SlAt w A c b)
    (hlen : l.length + b.length ≤ 100000000) (hbase : base ≤ w.heap.size) :
    ∃ v' w', (Builtin.append_ #[t, t'] ty #[v, .slice A b.length c]).run Try.prog w = .ok v' w' ∧ OB base w' v' (l ++ b) ∧ w.grownBy w' v.ownBlock ∧ (v'.ownBlock = v.ownBlock ∨ ∀ g, v'.ownBlock = some g → w.heap.size ≤ g) := by
  obtain ⟨v', w', h1, h2, h3⟩ := run_appX (P := Try.prog) w base t t' ty 5 fr_u8 ht ht' rfl (by decide) hown A b.length c (valsB b) (by rw [valsB_length, Nat.mul_one]) (fun e => by subst e; obtain ⟨rfl, rfl⟩ := hb.empty; exact ⟨rfl, rfl⟩) (fun a e => sl_news hb a e) (vals_one b) (by unfold maxLen; omega) (by omega) hbase
  refine ⟨v', w', h1, ?_, h3⟩
  unfold OB
  rw [List.length_append, valsB_append]
  exact h2

/-- What turns from w on lies in blocks of tags from lo to hi; new blocks aside. -/
structure Turn (lo hi : Nat) (who : Nat → Nat) (w : World) (who' : Nat → Nat) (w' : World) : Prop where
  os : w'.os = w.os
  tape : w'.tape = w.tape
  output : w'.output = w.output
  size : w.heap.size ≤ w'.heap.size
  block : ∀ b, b < w.heap.size → ¬ (lo ≤ who b ∧ who b < hi) → w'.heap[b]? = w.heap[b]?
  same : ∀ b, b < w.heap.size → who' b = who b
def Fresh (who : Nat → Nat) (w : World) : Prop := ∀ b, w.heap.size ≤ b → who b = 0
theorem Fresh.size {who : Nat → Nat} {w w' : World} (h : Fresh who w) (hs : w.heap.size ≤ w'.heap.size) : Fresh who w' := fun b hb => h b (Nat.le_trans hs hb)
theorem Turn.refl (lo hi : Nat) (who : Nat → Nat) (w : World) : Turn lo hi who w who w := ⟨rfl, rfl, rfl, Nat.le_refl _, fun _ _ _ => rfl, fun _ _ => rfl⟩
theorem Turn.below {lo hi : Nat} {who : Nat → Nat} {w w' : World} (h : Below w.heap.size w w') : Turn lo hi who w who w' := ⟨h.os, h.tape, h.output, h.size, fun b hb _ => h.block b hb, fun _ _ => rfl⟩
theorem Turn.trans {lo hi : Nat} {a b c : Nat → Nat} {w1 w2 w3 : World} (h : Turn lo hi a w1 b w2) (k : Turn lo hi b w2 c w3) : Turn lo hi a w1 c w3 :=
  ⟨k.os.trans h.os, k.tape.trans h.tape, k.output.trans h.output, Nat.le_trans h.size k.size, fun q hq hn => (k.block q (Nat.lt_of_lt_of_le hq h.size) (by rw [h.same q hq]; exact hn)).trans (h.block q hq hn), fun q hq => (k.same q (Nat.lt_of_lt_of_le hq h.size)).trans (h.same q hq)⟩
theorem Turn.wider {lo hi lo' hi' : Nat} {a b : Nat → Nat} {w1 w2 : World} (h : Turn lo hi a w1 b w2) (h1 : lo' ≤ lo) (h2 : hi ≤ hi') : Turn lo' hi' a w1 b w2 :=
  ⟨h.os, h.tape, h.output, h.size, fun q hq hn => h.block q hq (fun e => hn ⟨by omega, by omega⟩), h.same⟩
/-- Of blocks that nobody had nothing has turned. -/
theorem Turn.free {lo hi : Nat} {a b : Nat → Nat} {w1 w2 : World} (h : Turn lo hi a w1 b w2) (hlo : 0 < lo) {B : Nat} (hB : ∀ q, q < B → a q = 0) (hBs : B ≤ w1.heap.size) : Below B w1 w2 :=
  ⟨h.os, h.tape, h.output, h.size, fun q hq => h.block q (by omega) (by rw [hB q hq]; omega)⟩
theorem Turn.bytes {lo hi : Nat} {a b : Nat → Nat} {w1 w2 : World} (h : Turn lo hi a w1 b w2) (hlo : 0 < lo) {A : Option Addr} {l : Bs} (hb : BytesAt w1 A l) (hA : 0 < l.length → ∀ g o, A = some ⟨g, o, none⟩ → a g = 0) : BytesAt w2 A l := by
  by_cases hn : 0 < l.length
  · exact hb.keep fun g o e hg => h.block g hg (by rw [hA hn g o e]; omega)
  · exact fun h => absurd h hn
/-- A step: a row of tag T is appended to, or cut, or a cell of such a block is stored into. -/
theorem Turn.grown {who : Nat → Nat} {w w' : World} {v : Value} (hg : w.grownBy w' v.ownBlock) {T : Nat} (hv : ∀ g, v.ownBlock = some g → who g = T) {who' : Nat → Nat} (hw : ∀ b, b < w.heap.size → who' b = who b) : Turn T (T + 1) who w who' w' :=
  ⟨hg.os, hg.tape, hg.output, hg.size, fun b hb hn => hg.block b hb (fun e => hn (by have := hv b e.symm; omega)), hw⟩
/-- Whose blocks are whose behind it. -/
def tagged (who : Nat → Nat) (n : Nat) (v : Value) (T : Nat) : Nat → Nat := fun b => if n ≤ b ∧ v.ownBlock = some b then T else who b
theorem tagged_old {who : Nat → Nat} {n : Nat} {v : Value} {T b : Nat} (h : b < n) : tagged who n v T b = who b := by unfold tagged; rw [if_neg (by omega)]
theorem tagged_own {who : Nat → Nat} {w : World} {v v' : Value} {T : Nat} (hb : v'.ownBlock = v.ownBlock ∨ ∀ g, v'.ownBlock = some g → w.heap.size ≤ g) (hv : ∀ g, v.ownBlock = some g → who g = T) : ∀ g, v'.ownBlock = some g → tagged who w.heap.size v' T g = T := fun g hg => by
  unfold tagged
  by_cases h1 : w.heap.size ≤ g
  · rw [if_pos ⟨h1, hg⟩]
  · rw [if_neg (fun e => h1 e.1)]
    rcases hb with e | e
    · exact hv g (e ▸ hg)
    · exact absurd (e g hg) h1
theorem tagged_fresh {who : Nat → Nat} {n T : Nat} {v : Value} {w' : World} (hf : ∀ b, n ≤ b → who b = 0) (hn : n ≤ w'.heap.size) (hv : ∀ g, v.ownBlock = some g → g < w'.heap.size) : Fresh (tagged who n v T) w' := fun b hb => by
  unfold tagged
  rw [if_neg (fun e => by have := hv b e.2; omega)]
  exact hf b (by omega)

/-- What is pending, in memory. -/
inductive SX where
  | grow (A : Option Addr) (c : Nat) (b : Bs)
  | cut (n : Nat)
def SX.v : SX → Value
  | .grow A c b => .iface 78 (.slice A b.length c)
  | .cut n => .iface 81 (.int .i64 n)
def SX.sts : SX → List DSt
  | .grow _ _ b => b.map .byte
  | .cut n => [.cut n]
def SX.at_ (who : Nat → Nat) (w : World) : SX → Prop
  | .grow A c b => SlAt w A c b ∧ (0 < b.length → ∀ g o, A = some ⟨g, o, none⟩ → who g = 0)
  | .cut n => n ≤ 100000000
def stsX (p : List SX) : List DSt := p.flatMap SX.sts
/-- Each cut leaves what there is. -/
def okS (b : Bs) : List DSt → Prop
  | [] => True
  | .byte x :: r => okS (b ++ [x]) r
  | .cut n :: r => n ≤ b.length ∧ okS (b.take n) r
theorem okS_append (l m : List DSt) : ∀ b, okS b (l ++ m) ↔ okS b l ∧ okS (runS b l) m := by
  induction l with
  | nil => intro b; simp [okS, runS]
  | cons s r ih =>
    intro b
    cases s with
    | byte x => exact ih _
    | cut n =>
      show (n ≤ b.length ∧ okS (b.take n) (r ++ m)) ↔ (n ≤ b.length ∧ okS (b.take n) r) ∧ okS (runS (b.take n) r) m
      rw [ih, and_assoc]
theorem okS_bytes (g b : Bs) : okS b (g.map .byte) := by
  induction g generalizing b with
  | nil => trivial
  | cons x r ih => exact ih _

/-- An area, in memory. -/
structure AX where
  cv : Value
  lv : Value
  pv : Value
  c : Bs
  l : Bs
  p : List SX
def AX.ar (x : AX) : DAr := ⟨x.l, stsX x.p⟩
def AX.cs (x : AX) : List Value := [x.cv, x.lv, x.pv]
structure AreaAt (base : Nat) (who : Nat → Nat) (w : World) (T : Nat) (x : AX) : Prop where
  c : OB base w x.cv x.c
  l : OB base w x.lv x.l
  p : w.ownsRow base 95 1 x.pv x.p.length (x.p.map SX.v)
  steps : ∀ s ∈ x.p, s.at_ who w
  wc : ∀ g, x.cv.ownBlock = some g → who g = T
  wl : ∀ g, x.lv.ownBlock = some g → who g = T + 1
  wp : ∀ g, x.pv.ownBlock = some g → who g = T + 2
theorem SX.at_.keep {who who' : Nat → Nat} {w w' : World} {s : SX} (h : s.at_ who w) (hk : ∀ b, b < w.heap.size → who b = 0 → w'.heap[b]? = w.heap[b]? ∧ who' b = who b) : s.at_ who' w' := by
  cases s with
  | cut n => exact h
  | grow A c b =>
    obtain ⟨h1, h2⟩ := h
    by_cases hn : 0 < b.length
    · obtain ⟨g, o, rfl, hg⟩ := h1.bytes.lt hn
      have h0 := h2 hn g o rfl
      obtain ⟨h3, h4⟩ := hk g hg h0
      exact ⟨⟨h1.bytes.keep fun g' o' e _ => (by cases e; exact h3), h1.cap, h1.capm, h1.nil⟩, fun _ g' o' e => (by cases e; exact h4.trans h0)⟩
    · obtain rfl : b = [] := List.eq_nil_of_length_eq_zero (by omega)
      exact ⟨⟨BytesAt.nil _ _, h1.cap, h1.capm, h1.nil⟩, fun h => absurd h hn⟩
theorem AreaAt.keep {base : Nat} {who who' : Nat → Nat} {w w' : World} {T : Nat} {x : AX} (h : AreaAt base who w T x) (hk : ∀ b, b < w.heap.size → who b = 0 ∨ (T ≤ who b ∧ who b < T + 3) → w'.heap[b]? = w.heap[b]? ∧ who' b = who b) : AreaAt base who' w' T x := by
  refine ⟨row_keep h.c fun g hg hl => (hk g hl (.inr (by rw [h.wc g hg]; omega))).1, row_keep h.l fun g hg hl => (hk g hl (.inr (by rw [h.wl g hg]; omega))).1, row_keep h.p fun g hg hl => (hk g hl (.inr (by rw [h.wp g hg]; omega))).1, fun s hs => (h.steps s hs).keep fun b hb h0 => hk b hb (.inl h0), fun g hg => ?_, fun g hg => ?_, fun g hg => ?_⟩
  · have := h.wc g hg; rw [(hk g (row_blk h.c hg).2.1 (.inr (by omega))).2]; exact this
  · have := h.wl g hg; rw [(hk g (row_blk h.l hg).2.1 (.inr (by omega))).2]; exact this
  · have := h.wp g hg; rw [(hk g (row_blk h.p hg).2.1 (.inr (by omega))).2]; exact this

/-- The areas of a disk of tags from T on. -/
structure AreasAt (base : Nat) (who : Nat → Nat) (w : World) (T ga cap : Nat) (L : List AX) : Prop where
  row : w.ownsRow base 70 3 (.slice (some ⟨ga, 0, none⟩) L.length cap) L.length (L.flatMap AX.cs)
  wg : who ga = T + 1
  each : ∀ i x, L[i]? = some x → AreaAt base who w (T + 2 + 3 * i) x
theorem AreasAt.keep {base : Nat} {who who' : Nat → Nat} {w w' : World} {T ga cap : Nat} {L : List AX} (h : AreasAt base who w T ga cap L) (hk : ∀ b, b < w.heap.size → who b = 0 ∨ (T + 1 ≤ who b ∧ who b < T + 2 + 3 * L.length) → w'.heap[b]? = w.heap[b]? ∧ who' b = who b) : AreasAt base who' w' T ga cap L := by
  have hg := (row_blk h.row rfl).2.1
  refine ⟨row_keep h.row fun g hg hl => ?_, ?_, fun i x hx => (h.each i x hx).keep fun b hb h0 => hk b hb ?_⟩
  · cases hg; exact (hk ga hl (.inr (by rw [h.wg]; omega))).1
  · rw [(hk ga hg (.inr (by rw [h.wg]; omega))).2]; exact h.wg
  · have := (List.getElem?_eq_some_iff.1 hx).1
    rcases h0 with h0 | h0
    · exact .inl h0
    · exact .inr (by omega)
theorem cs_at {L : List AX} {i : Nat} {x : AX} (h : L[i]? = some x) : (L.flatMap AX.cs)[3 * i]? = some x.cv ∧ (L.flatMap AX.cs)[3 * i + 1]? = some x.lv ∧ (L.flatMap AX.cs)[3 * i + 2]? = some x.pv := by
  induction L generalizing i with
  | nil => simp at h
  | cons y r ih =>
    rw [List.flatMap_cons]
    cases i with
    | zero => obtain rfl : y = x := by simpa using h
              exact ⟨rfl, rfl, rfl⟩
    | succ i =>
      have := ih (i := i) (by simpa using h)
      show (y.cv :: y.lv :: y.pv :: (r.flatMap AX.cs))[3 * (i + 1)]? = _ ∧ (y.cv :: y.lv :: y.pv :: (r.flatMap AX.cs))[3 * (i + 1) + 1]? = _ ∧ (y.cv :: y.lv :: y.pv :: (r.flatMap AX.cs))[3 * (i + 1) + 2]? = _
      rw [show 3 * (i + 1) = 3 * i + 3 from by omega, show 3 * i + 3 + 1 = (3 * i + 1) + 3 from by omega, show 3 * i + 3 + 2 = (3 * i + 2) + 3 from by omega]
      simpa using this
theorem cs_length (L : List AX) : (L.flatMap AX.cs).length = L.length * 3 := by
  induction L with
  | nil => rfl
  | cons y r ih => rw [List.flatMap_cons, List.length_append, ih, List.length_cons]; show 3 + _ = _; omega
theorem cs_set {L : List AX} {i : Nat} {x : AX} (h : L[i]? = some x) (y : AX) : ((L.flatMap AX.cs).set (3 * i) y.cv |>.set (3 * i + 1) y.lv |>.set (3 * i + 2) y.pv) = (L.set i y).flatMap AX.cs := by
  induction L generalizing i with
  | nil => simp at h
  | cons z r ih =>
    cases i with
    | zero => rfl
    | succ i =>
      have := ih (i := i) (by simpa using h)
      show (((z.cv :: z.lv :: z.pv :: (r.flatMap AX.cs)).set (3 * (i + 1)) y.cv).set (3 * (i + 1) + 1) y.lv).set (3 * (i + 1) + 2) y.pv = z.cv :: z.lv :: z.pv :: ((r.set i y).flatMap AX.cs)
      rw [← this, show 3 * (i + 1) = 3 * i + 3 from by omega, show 3 * i + 3 + 1 = (3 * i + 1) + 3 from by omega, show 3 * i + 3 + 2 = (3 * i + 2) + 3 from by omega]
      rfl
theorem AreasAt.cells {base : Nat} {who : Nat → Nat} {w : World} {T ga cap : Nat} {L : List AX} (h : AreasAt base who w T ga cap L) {i : Nat} {x : AX} (hx : L[i]? = some x) :
    w.cell? ⟨ga, 3 * i, none⟩ = some x.cv ∧ w.cell? ⟨ga, 3 * i + 1, none⟩ = some x.lv ∧ w.cell? ⟨ga, 3 * i + 2, none⟩ = some x.pv := by
  have hi := (List.getElem?_eq_some_iff.1 hx).1
  obtain ⟨h1, h2, h3⟩ := cs_at hx
  rw [h.row.cellAt _ (by omega), h.row.cellAt _ (by omega), h.row.cellAt _ (by omega)]
  exact ⟨h1, h2, h3⟩
/-- What is read is what lasts behind all that is pending. -/
def AX.ok (x : AX) : Prop := x.c = x.ar.now ∧ okS x.l (stsX x.p) ∧ x.p.length ≤ (stsX x.p).length

/-- A part of an area is another one. -/
theorem AreasAt.put {base : Nat} {who : Nat → Nat} {w w1 : World} {T ga cap i k : Nat} {L : List AX} {x x' : AX} {v v' : Value} (h : AreasAt base who w T ga cap L) (hx : L[i]? = some x) (hf : Fresh who w) (hk3 : k < 3)
    (hg : w.grownBy w1 v.ownBlock) (hv : ∀ g, v.ownBlock = some g → who g = T + 2 + 3 * i + k) (hlt : ∀ g, v'.ownBlock = some g → g < w1.heap.size)
    (hcs : (L.flatMap AX.cs).set (3 * i + k) v' = (L.set i x').flatMap AX.cs) (hx' : AreaAt base (tagged who w.heap.size v' (T + 2 + 3 * i + k)) w1 (T + 2 + 3 * i) x') :
    ∃ who', AreasAt base who' (w1.setCell ⟨ga, 3 * i + k, none⟩ v') T ga cap (L.set i x') ∧ Turn (T + 1) (T + 2 + 3 * L.length) who w who' (w1.setCell ⟨ga, 3 * i + k, none⟩ v') ∧ Fresh who' (w1.setCell ⟨ga, 3 * i + k, none⟩ v') := by
  have hi := (List.getElem?_eq_some_iff.1 hx).1
  have hgl := (row_blk h.row rfl).2.1
  have hw1 : ∀ b, b < w.heap.size → who b ≠ T + 2 + 3 * i + k → w1.heap[b]? = w.heap[b]? := fun b hb hn => hg.block b hb (fun e => hn (hv b e.symm))
  have hrow1 : w1.ownsRow base 70 3 (.slice (some ⟨ga, 0, none⟩) L.length cap) L.length (L.flatMap AX.cs) := row_keep h.row fun g e hl => by
    cases e; exact hw1 ga hl (by rw [h.wg]; omega)
  have hst := hrow1.stored (3 * i + k) v'
  rw [hcs] at hst
  have hgl1 : ga < w1.heap.size := Nat.lt_of_lt_of_le hgl hg.size
  have hoth : ∀ b, b ≠ ga → (w1.setCell ⟨ga, 3 * i + k, none⟩ v').heap[b]? = w1.heap[b]? := fun b hb => Below.heap_setCell _ _ _ _ hb
  have hsz : (w1.setCell ⟨ga, 3 * i + k, none⟩ v').heap.size = w1.heap.size := by simp [World.setCell]
  have hwga : tagged who w.heap.size v' (T + 2 + 3 * i + k) ga = T + 1 := (tagged_old hgl).trans h.wg
  have hfr : Fresh (tagged who w.heap.size v' (T + 2 + 3 * i + k)) w1 := tagged_fresh hf hg.size hlt
  refine ⟨tagged who w.heap.size v' (T + 2 + 3 * i + k), ⟨?_, hwga, fun j y hy => ?_⟩, ⟨?_, ?_, ?_, ?_, fun b hb hn => ?_, fun b hb => tagged_old hb⟩, hfr.size (by rw [hsz]; exact Nat.le_refl _)⟩
  · rw [List.length_set]; exact hst.1
  · by_cases e : i = j
    · subst e
      rw [List.getElem?_set_self hi] at hy
      cases hy
      refine hx'.keep fun b hb h0 => ⟨hoth b (fun e => ?_), rfl⟩
      subst e
      rw [hwga] at h0
      omega
    · rw [List.getElem?_set_ne e] at hy
      refine (h.each j y hy).keep fun b hb h0 => ⟨?_, tagged_old hb⟩
      rw [hoth b (fun e => by subst e; rw [h.wg] at h0; omega)]
      exact hw1 b hb (by omega)
  · exact hg.os
  · exact hg.tape
  · exact hg.output
  · rw [hsz]; exact hg.size
  · rw [hoth b (fun e => hn (by subst e; rw [h.wg]; omega))]
    exact hw1 b hb (fun e => hn (by rw [e]; omega))
/-- What is read is other bytes. -/
theorem AreasAt.putC {base : Nat} {who : Nat → Nat} {w w1 : World} {T ga cap i : Nat} {L : List AX} {x : AX} {v' : Value} {b : Bs} (h : AreasAt base who w T ga cap L) (hx : L[i]? = some x) (hf : Fresh who w)
    (hg : w.grownBy w1 x.cv.ownBlock) (hb : v'.ownBlock = x.cv.ownBlock ∨ ∀ g, v'.ownBlock = some g → w.heap.size ≤ g) (ho : OB base w1 v' b) :
    ∃ who', AreasAt base who' (w1.setCell ⟨ga, 3 * i, none⟩ v') T ga cap (L.set i { x with cv := v', c := b }) ∧ Turn (T + 1) (T + 2 + 3 * L.length) who w who' (w1.setCell ⟨ga, 3 * i, none⟩ v') ∧ Fresh who' (w1.setCell ⟨ga, 3 * i, none⟩ v') := by
  have ha := h.each i x hx
  have hk : ∀ g, g < w.heap.size → who g ≠ T + 2 + 3 * i → w1.heap[g]? = w.heap[g]? := fun g hl hn => hg.block g hl (fun e => hn (ha.wc g e.symm))
  refine h.put (k := 0) hx hf (by omega) hg ha.wc (fun g e => (row_blk ho e).2.1) ?_ ⟨ho, row_keep ha.l fun g e hl => hk g hl ?_, row_keep ha.p fun g e hl => hk g hl ?_, fun s hs => (ha.steps s hs).keep fun g hl h0 => ⟨hk g hl (by omega), tagged_old hl⟩, tagged_own hb ha.wc, fun g e => (tagged_old (row_blk ha.l e).2.1).trans (ha.wl g e), fun g e => (tagged_old (row_blk ha.p e).2.1).trans (ha.wp g e)⟩
  · have h2 := cs_set hx { x with cv := v', c := b }
    obtain ⟨_, h3, h4⟩ := cs_at hx
    rw [← h2]
    have e1 : ((L.flatMap AX.cs).set (3 * i) v').set (3 * i + 1) x.lv = (L.flatMap AX.cs).set (3 * i) v' := List.set_eq_of_getElem? _ _ (by rw [List.getElem?_set_ne (by omega)]; exact h3)
    have e2 : ((L.flatMap AX.cs).set (3 * i) v').set (3 * i + 2) x.pv = (L.flatMap AX.cs).set (3 * i) v' := List.set_eq_of_getElem? _ _ (by rw [List.getElem?_set_ne (by omega)]; exact h4)
    show _ = (((L.flatMap AX.cs).set (3 * i) v').set (3 * i + 1) x.lv).set (3 * i + 2) x.pv
    rw [e1, e2]; rfl
  · rw [ha.wl g e]; omega
  · rw [ha.wp g e]; omega
/-- What lasts is other bytes. -/
theorem AreasAt.putL {base : Nat} {who : Nat → Nat} {w w1 : World} {T ga cap i : Nat} {L : List AX} {x : AX} {v' : Value} {b : Bs} (h : AreasAt base who w T ga cap L) (hx : L[i]? = some x) (hf : Fresh who w)
    (hg : w.grownBy w1 x.lv.ownBlock) (hb : v'.ownBlock = x.lv.ownBlock ∨ ∀ g, v'.ownBlock = some g → w.heap.size ≤ g) (ho : OB base w1 v' b) :
    ∃ who', AreasAt base who' (w1.setCell ⟨ga, 3 * i + 1, none⟩ v') T ga cap (L.set i { x with lv := v', l := b }) ∧ Turn (T + 1) (T + 2 + 3 * L.length) who w who' (w1.setCell ⟨ga, 3 * i + 1, none⟩ v') ∧ Fresh who' (w1.setCell ⟨ga, 3 * i + 1, none⟩ v') := by
  have ha := h.each i x hx
  have hk : ∀ g, g < w.heap.size → who g ≠ T + 2 + 3 * i + 1 → w1.heap[g]? = w.heap[g]? := fun g hl hn => hg.block g hl (fun e => hn (ha.wl g e.symm))
  refine h.put (k := 1) hx hf (by omega) hg ha.wl (fun g e => (row_blk ho e).2.1) ?_ ⟨row_keep ha.c fun g e hl => hk g hl ?_, ho, row_keep ha.p fun g e hl => hk g hl ?_, fun s hs => (ha.steps s hs).keep fun g hl h0 => ⟨hk g hl (by omega), tagged_old hl⟩, fun g e => (tagged_old (row_blk ha.c e).2.1).trans (ha.wc g e), tagged_own hb ha.wl, fun g e => (tagged_old (row_blk ha.p e).2.1).trans (ha.wp g e)⟩
  · have h2 := cs_set hx { x with lv := v', l := b }
    obtain ⟨h3, _, h4⟩ := cs_at hx
    rw [← h2]
    have e1 : (L.flatMap AX.cs).set (3 * i) x.cv = L.flatMap AX.cs := List.set_eq_of_getElem? _ _ h3
    have e2 : ((L.flatMap AX.cs).set (3 * i + 1) v').set (3 * i + 2) x.pv = (L.flatMap AX.cs).set (3 * i + 1) v' := List.set_eq_of_getElem? _ _ (by rw [List.getElem?_set_ne (by omega)]; exact h4)
    show _ = (((L.flatMap AX.cs).set (3 * i) x.cv).set (3 * i + 1) v').set (3 * i + 2) x.pv
    rw [e1, e2]
  · rw [ha.wc g e]; omega
  · rw [ha.wp g e]; omega
/-- What is pending is something else. -/
theorem AreasAt.putP {base : Nat} {who : Nat → Nat} {w w1 : World} {T ga cap i : Nat} {L : List AX} {x : AX} {v' : Value} {p : List SX} (h : AreasAt base who w T ga cap L) (hx : L[i]? = some x) (hf : Fresh who w)
    (hg : w.grownBy w1 x.pv.ownBlock) (hb : v'.ownBlock = x.pv.ownBlock ∨ ∀ g, v'.ownBlock = some g → w.heap.size ≤ g) (ho : w1.ownsRow base 95 1 v' p.length (p.map SX.v)) (hp : ∀ s ∈ p, s.at_ who w) :
    ∃ who', AreasAt base who' (w1.setCell ⟨ga, 3 * i + 2, none⟩ v') T ga cap (L.set i { x with pv := v', p := p }) ∧ Turn (T + 1) (T + 2 + 3 * L.length) who w who' (w1.setCell ⟨ga, 3 * i + 2, none⟩ v') ∧ Fresh who' (w1.setCell ⟨ga, 3 * i + 2, none⟩ v') := by
  have ha := h.each i x hx
  have hk : ∀ g, g < w.heap.size → who g ≠ T + 2 + 3 * i + 2 → w1.heap[g]? = w.heap[g]? := fun g hl hn => hg.block g hl (fun e => hn (ha.wp g e.symm))
  refine h.put (k := 2) hx hf (by omega) hg ha.wp (fun g e => (row_blk ho e).2.1) ?_ ⟨row_keep ha.c fun g e hl => hk g hl ?_, row_keep ha.l fun g e hl => hk g hl ?_, ho, fun s hs => (hp s hs).keep fun g hl h0 => ⟨hk g hl (by omega), tagged_old hl⟩, fun g e => (tagged_old (row_blk ha.c e).2.1).trans (ha.wc g e), fun g e => (tagged_old (row_blk ha.l e).2.1).trans (ha.wl g e), tagged_own hb ha.wp⟩
  · have h2 := cs_set hx { x with pv := v', p := p }
    obtain ⟨h3, h4, _⟩ := cs_at hx
    rw [← h2]
    have e1 : (L.flatMap AX.cs).set (3 * i) x.cv = L.flatMap AX.cs := List.set_eq_of_getElem? _ _ h3
    have e2 : (L.flatMap AX.cs).set (3 * i + 1) x.lv = L.flatMap AX.cs := List.set_eq_of_getElem? _ _ h4
    show _ = (((L.flatMap AX.cs).set (3 * i) x.cv).set (3 * i + 1) x.lv).set (3 * i + 2) v'
    rw [e1, e2]
  · rw [ha.wc g e]; omega
  · rw [ha.wl g e]; omega
end Go.Proofs.Ytjobohhbkcjhnaa
