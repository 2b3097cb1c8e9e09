/-
  Graphs, plain: what is gone through from a node, in which order it is left; rings by two goings; no program is named here.
-/
import Derived.Below
namespace Go.Proofs.Yteigepblocbnlaa.Gp
open Go

/-- Was it at this node? (What is no node counts as one where it was.) -/
def been (b : List Bool) (x : Nat) : Bool := b.getD x true
def row (A : List (List Nat)) (x : Nat) : List Nat := A.getD x []
theorem been_set (b : List Bool) (v x : Nat) : been (b.set v true) x = (been b x || decide (x = v)) := by
  unfold been
  by_cases h : x = v
  · subst h
    by_cases hx : x < b.length
    · simp [List.getD, hx]
    · simp [List.getD, hx]
  · have hne : v ≠ x := fun e => h e.symm
    simp [List.getD, List.getElem?_set_ne hne, h]
theorem been_lt {b : List Bool} {x : Nat} (h : been b x = false) : x < b.length := by
  unfold been at h
  by_cases hx : x < b.length
  · exact hx
  · simp [List.getD, hx] at h
theorem been_new (n x : Nat) : been (List.replicate n false) x = !decide (x < n) := by
  unfold been
  by_cases hx : x < n
  · simp [List.getD, hx]
  · simp [List.getD, hx]
theorem count_set {b : List Bool} {v : Nat} (h : been b v = false) : (b.set v true).count false + 1 = b.count false := by
  induction b generalizing v with
  | nil => simp [been] at h
  | cons x r ih =>
    cases v with
    | zero => simp [been] at h; subst h; simp
    | succ v =>
      have h' : been r v = false := by simpa [been] using h
      have := ih h'
      simp only [List.set_cons_succ, List.count_cons]
      omega

/-- A way of edges of A through nodes where it was not. -/
inductive Wy (A : List (List Nat)) (b : List Bool) : Nat → Nat → Prop where
  | refl {x : Nat} (h : been b x = false) : Wy A b x x
  | step {x y z : Nat} (h : been b x = false) (e : y ∈ row A x) (w : Wy A b y z) : Wy A b x z
theorem Wy.here {A : List (List Nat)} {b : List Bool} {x y : Nat} (w : Wy A b x y) : been b x = false := by cases w <;> assumption
theorem Wy.there {A : List (List Nat)} {b : List Bool} {x y : Nat} (w : Wy A b x y) : been b y = false := by
  induction w with
  | refl h => exact h
  | step _ _ _ ih => exact ih
theorem Wy.trans {A : List (List Nat)} {b : List Bool} {x y z : Nat} (w : Wy A b x y) (u : Wy A b y z) : Wy A b x z := by
  induction w with
  | refl _ => exact u
  | step h e _ ih => exact .step h e (ih u)
theorem Wy.mono {A : List (List Nat)} {b b' : List Bool} (hb : ∀ x, been b x = false → been b' x = false) {x y : Nat} (w : Wy A b x y) : Wy A b' x y := by
  induction w with
  | refl h => exact .refl (hb _ h)
  | step h e _ ih => exact .step (hb _ h) e ih
theorem Wy.snoc {A : List (List Nat)} {b : List Bool} {x y z : Nat} (w : Wy A b x y) (e : z ∈ row A y) (h : been b z = false) : Wy A b x z :=
  w.trans (.step w.there e (.refl h))
/-- A way goes through what else was shut, or it doesn't. -/
theorem Wy.parts {A : List (List Nat)} {b b' : List Bool} {s : List Nat} (hb : ∀ x, been b' x = false ↔ (been b x = false ∧ x ∉ s)) {x y : Nat} (w : Wy A b x y) : Wy A b' x y ∨ ∃ z, z ∈ s ∧ Wy A b x z ∧ Wy A b z y := by
  induction w with
  | @refl x h =>
    by_cases hx : x ∈ s
    · exact Or.inr ⟨x, hx, .refl h, .refl h⟩
    · exact Or.inl (.refl ((hb x).2 ⟨h, hx⟩))
  | @step x y z h e w ih =>
    by_cases hx : x ∈ s
    · exact Or.inr ⟨x, hx, .refl h, .step h e w⟩
    · rcases ih with i | ⟨u, hu, u1, u2⟩
      · exact Or.inl (.step ((hb x).2 ⟨h, hx⟩) e i)
      · exact Or.inr ⟨u, hu, .step h e u1, u2⟩

/-- What is gone through from there, left behind o; where it was then. -/
def vis (A : List (List Nat)) : Nat → List Bool → List Nat → Nat → List Bool × List Nat
  | 0, b, o, _ => (b, o)
  | k + 1, b, o, v => if been b v then (b, o) else
      (((row A v).foldl (fun s c => vis A k s.1 s.2 c) (b.set v true, o)).1, ((row A v).foldl (fun s c => vis A k s.1 s.2 c) (b.set v true, o)).2 ++ [v])
def visL (A : List (List Nat)) (k : Nat) (s : List Bool × List Nat) (cs : List Nat) : List Bool × List Nat := cs.foldl (fun s c => vis A k s.1 s.2 c) s
theorem visL_snoc (A : List (List Nat)) (k : Nat) (s : List Bool × List Nat) (cs : List Nat) (c : Nat) : visL A k s (cs ++ [c]) = vis A k (visL A k s cs).1 (visL A k s cs).2 c := by
  simp [visL]
theorem vis_been {A : List (List Nat)} {k : Nat} {b : List Bool} {o : List Nat} {v : Nat} (h : been b v = true) : vis A (k + 1) b o v = (b, o) := by
  rw [vis, if_pos h]
theorem vis_new {A : List (List Nat)} {k : Nat} {b : List Bool} {o : List Nat} {v : Nat} (h : been b v = false) : vis A (k + 1) b o v = ((visL A k (b.set v true, o) (row A v)).1, (visL A k (b.set v true, o) (row A v)).2 ++ [v]) := by
  rw [vis, if_neg (by simp [h])]; rfl

/-- y stands at x, or ahead of it. -/
def Upto (s : List Nat) (x y : Nat) : Prop := ∃ p q, s = p ++ x :: q ∧ y ∉ q
/-- s was gone through, and left in this order. -/
structure Gone (A : List (List Nat)) (b : List Bool) (s : List Nat) (b' : List Bool) : Prop where
  len : b'.length = b.length
  mem : ∀ x, been b' x = false ↔ (been b x = false ∧ x ∉ s)
  new : ∀ x, x ∈ s → been b x = false
  once : s.Nodup
  shut : ∀ x y, x ∈ s → Wy A b x y → y ∈ s ∧ ∃ x', x' ∈ s ∧ Wy A b x x' ∧ Wy A b x' x ∧ Upto s x' y
  fewer : b'.count false + s.length = b.count false
theorem Gone.none (A : List (List Nat)) (b : List Bool) : Gone A b [] b :=
  ⟨rfl, fun x => by simp, fun x h => (by simp at h), List.nodup_nil, fun x y h => (by simp at h), by simp⟩
theorem Gone.also {A : List (List Nat)} {b b' b'' : List Bool} {s t : List Nat} (g : Gone A b s b') (h : Gone A b' t b'') : Gone A b (s ++ t) b'' := by
  have hbt : ∀ x, been b' x = false → been b x = false := fun x hx => ((g.mem x).1 hx).1
  have dis : ∀ x, x ∈ t → x ∉ s := fun x hx => ((g.mem x).1 (h.new x hx)).2
  refine ⟨h.len.trans g.len, ?_, ?_, ?_, ?_, ?_⟩
  · intro x; rw [h.mem, g.mem, List.mem_append, not_or, and_assoc]
  · intro x hx
    rcases List.mem_append.1 hx with hx | hx
    · exact g.new x hx
    · exact hbt x (h.new x hx)
  · refine List.nodup_append.2 ⟨g.once, h.once, ?_⟩
    intro x hx y hy e; subst e; exact dis x hy hx
  · have first : ∀ x y, x ∈ s → Wy A b x y → y ∈ s ∧ ∃ x', x' ∈ s ∧ Wy A b x x' ∧ Wy A b x' x ∧ Upto (s ++ t) x' y := by
      intro x y hx w
      obtain ⟨hy, x', hx', w1, w2, p, q, e, hq⟩ := g.shut x y hx w
      refine ⟨hy, x', hx', w1, w2, p, q ++ t, by rw [e]; simp, ?_⟩
      rw [List.mem_append, not_or]
      exact ⟨hq, fun ht => dis y ht hy⟩
    intro x y hx w
    rcases List.mem_append.1 hx with hx | hx
    · obtain ⟨hy, x', hx', w1, w2, hu⟩ := first x y hx w
      exact ⟨List.mem_append_left _ hy, x', List.mem_append_left _ hx', w1, w2, hu⟩
    · rcases w.parts g.mem with w' | ⟨z, hz, w1, w2⟩
      · obtain ⟨hy, x', hx', u1, u2, p, q, e, hq⟩ := h.shut x y hx w'
        exact ⟨List.mem_append_right _ hy, x', List.mem_append_right _ hx', u1.mono hbt, u2.mono hbt, s ++ p, q, by rw [e]; simp, hq⟩
      · have hy := (first z y hz w2).1
        refine ⟨List.mem_append_left _ hy, x, List.mem_append_right _ hx, .refl w1.here, .refl w1.here, ?_⟩
        obtain ⟨p, q, e⟩ := List.append_of_mem hx
        refine ⟨s ++ p, q, by rw [e]; simp, ?_⟩
        intro hq
        exact dis y (by rw [e]; simp [hq]) hy
  · have a1 := g.fewer
    have a2 := h.fewer
    simp only [List.length_append]; omega
/-- A node, behind all that is gone through from those behind it. -/
theorem Gone.last {A : List (List Nat)} {b b' : List Bool} {v : Nat} {t : List Nat} (hv : been b v = false) (g : Gone A (b.set v true) t b')
    (hc : ∀ c, c ∈ row A v → been b' c = true) (hr : ∀ y, y ∈ t → ∃ c, c ∈ row A v ∧ Wy A (b.set v true) c y) :
    Gone A b (t ++ [v]) b' ∧ ∀ y, y ∈ t ++ [v] → Wy A b v y := by
  have hb1 : ∀ x, been (b.set v true) x = false ↔ (been b x = false ∧ x ∉ [v]) := by
    intro x; rw [been_set]; simp
  have hm : ∀ x, been (b.set v true) x = false → been b x = false := fun x hx => ((hb1 x).1 hx).1
  have hvt : v ∉ t := fun h => by have := (hb1 v).1 (g.new v h); simp at this
  have reach : ∀ y, y ∈ t ++ [v] → Wy A b v y := by
    intro y hy
    rcases List.mem_append.1 hy with hy | hy
    · obtain ⟨c, hc', w⟩ := hr y hy
      exact .step hv hc' (w.mono hm)
    · rw [List.mem_singleton.1 hy]; exact .refl hv
  -- each to which a way leads from v is there
  have all : ∀ x y, Wy A b x y → (x = v ∨ Wy A (b.set v true) x y ∨ Wy A b v y) := by
    intro x y w
    rcases w.parts hb1 with w' | ⟨z, hz, w1, w2⟩
    · exact Or.inr (Or.inl w')
    · rw [List.mem_singleton.1 hz] at w2; exact Or.inr (Or.inr w2)
  have shut1 : ∀ x y, Wy A (b.set v true) x y → been b' x = true → y ∈ t := by
    intro x y w hx
    have hx0 : x ∈ t := by
      rcases Classical.em (x ∈ t) with h | h
      · exact h
      · have := (g.mem x).2 ⟨w.here, h⟩; rw [hx] at this; cases this
    exact (g.shut x y hx0 w).1
  have fromv : ∀ y, Wy A b v y → y ∈ t ++ [v] := by
    -- induct on the way from any x that is been in b'
    have gen : ∀ x y, Wy A b x y → (x = v ∨ x ∈ t) → y ∈ t ++ [v] := by
      intro x y w
      induction w with
      | @refl x h => rintro (rfl | h1); · simp
                     · exact List.mem_append_left _ h1
      | @step x y z h e w ih =>
        intro hx
        have hy : y = v ∨ y ∈ t := by
          by_cases hyv : y = v
          · exact Or.inl hyv
          · right
            have hyb : been (b.set v true) y = false := (hb1 y).2 ⟨w.here, by simp [hyv]⟩
            rcases hx with rfl | hx
            · have := hc y e
              rcases Classical.em (y ∈ t) with h1 | h1
              · exact h1
              · have := (g.mem y).2 ⟨hyb, h1⟩; rw [hc y e] at this; cases this
            · exact (g.shut x y hx (.step (g.new x hx) e (.refl hyb))).1
        exact ih hy
    exact fun y w => gen v y w (Or.inl rfl)
  refine ⟨⟨?_, ?_, ?_, ?_, ?_, ?_⟩, reach⟩
  · rw [g.len, List.length_set]
  · intro x; rw [g.mem, hb1, List.mem_append, not_or]; exact ⟨fun h => ⟨h.1.1, h.2, h.1.2⟩, fun h => ⟨⟨h.1, h.2.2⟩, h.2.1⟩⟩
  · intro x hx; exact (reach x hx).there
  · refine List.nodup_append.2 ⟨g.once, by simp, ?_⟩
    intro x hx y hy e; rw [List.mem_singleton.1 hy] at e; subst e; exact hvt hx
  · intro x y hx w
    have hvx : Wy A b v x := reach x hx
    have hy : y ∈ t ++ [v] := fromv y (hvx.trans w)
    refine ⟨hy, ?_⟩
    have viaV : Wy A b x v → ∃ x', x' ∈ t ++ [v] ∧ Wy A b x x' ∧ Wy A b x' x ∧ Upto (t ++ [v]) x' y := fun wv => ⟨v, by simp, wv, hvx, t, [], rfl, by simp⟩
    rcases w.parts hb1 with w' | ⟨z, hz, w1, _⟩
    · have hxt : x ∈ t := by
        rcases List.mem_append.1 hx with h | h
        · exact h
        · have h0 := w'.here; rw [List.mem_singleton.1 h, been_set] at h0; simp at h0
      obtain ⟨hyt, x', hx', u1, u2, p, q, e, hq⟩ := g.shut x y hxt w'
      refine ⟨x', List.mem_append_left _ hx', u1.mono hm, u2.mono hm, p, q ++ [v], by rw [e]; simp, ?_⟩
      rw [List.mem_append, not_or]
      refine ⟨hq, fun h => ?_⟩
      rw [List.mem_singleton.1 h] at hyt; exact hvt hyt
    · rw [List.mem_singleton.1 hz] at w1; exact viaV w1
  · have a1 := g.fewer
    have a2 := count_set hv
    simp only [List.length_append, List.length_singleton]; omega

/-- What a going from v leaves. -/
structure From (A : List (List Nat)) (b : List Bool) (v : Nat) (s : List Nat) (b' : List Bool) : Prop where
  gone : Gone A b s b'
  old : been b v = true → s = [] ∧ b' = b
  has : been b v = false → v ∈ s
  way : ∀ y, y ∈ s → Wy A b v y
structure FromL (A : List (List Nat)) (b : List Bool) (cs : List Nat) (s : List Nat) (b' : List Bool) : Prop where
  gone : Gone A b s b'
  has : ∀ c, c ∈ cs → been b' c = true
  way : ∀ y, y ∈ s → ∃ c, c ∈ cs ∧ Wy A b c y
theorem visL_of {A : List (List Nat)} {k : Nat} (ih : ∀ b o v, b.count false < k → ∃ s b', vis A k b o v = (b', o ++ s) ∧ From A b v s b') (cs : List Nat) :
    ∀ b o, b.count false < k → ∃ s b', visL A k (b, o) cs = (b', o ++ s) ∧ FromL A b cs s b' := by
  induction cs with
  | nil => intro b o _; exact ⟨[], b, by simp [visL], .none A b, fun c h => (by simp at h), fun y h => (by simp at h)⟩
  | cons c r ihr =>
    intro b o hk
    obtain ⟨s, b', e, f⟩ := ih b o c hk
    have h1 := f.gone.fewer
    obtain ⟨t, b'', e2, f2⟩ := ihr b' (o ++ s) (by omega)
    have hb : ∀ x, been b' x = false → been b x = false := fun x hx => ((f.gone.mem x).1 hx).1
    refine ⟨s ++ t, b'', ?_, f.gone.also f2.gone, ?_, ?_⟩
    · have : visL A k (b, o) (c :: r) = visL A k (vis A k b o c) r := rfl
      rw [this, e, e2, List.append_assoc]
    · intro x hx
      rcases List.mem_cons.1 hx with rfl | hx
      · cases hbe : been b'' x with
        | true => rfl
        | false =>
          have h2 := (f2.gone.mem x).1 hbe
          have h3 := (f.gone.mem x).1 h2.1
          exact absurd (f.has h3.1) h3.2
      · exact f2.has x hx
    · intro y hy
      rcases List.mem_append.1 hy with hy | hy
      · exact ⟨c, by simp, f.way y hy⟩
      · obtain ⟨d, hd, w⟩ := f2.way y hy
        exact ⟨d, by simp [hd], w.mono hb⟩
theorem vis_from (A : List (List Nat)) (k : Nat) : ∀ b o v, b.count false < k → ∃ s b', vis A k b o v = (b', o ++ s) ∧ From A b v s b' := by
  induction k with
  | zero => intro b o v h; omega
  | succ k ih =>
    intro b o v hk
    by_cases hb : been b v = true
    · rw [vis_been hb]
      exact ⟨[], b, by simp, .none A b, fun _ => ⟨rfl, rfl⟩, fun h => (by rw [hb] at h; cases h), fun y h => (by simp at h)⟩
    · have hf : been b v = false := by simpa using hb
      rw [vis_new hf]
      have hc := count_set hf
      obtain ⟨t, b', e, f⟩ := visL_of ih (row A v) (b.set v true) o (by omega)
      obtain ⟨g, w⟩ := Gone.last hf f.gone f.has f.way
      refine ⟨t ++ [v], b', by rw [e]; simp, g, fun h => absurd h hb, fun _ => by simp, w⟩
theorem visL_from (A : List (List Nat)) (k : Nat) (cs : List Nat) (b : List Bool) (o : List Nat) (h : b.count false < k) : ∃ s b', visL A k (b, o) cs = (b', o ++ s) ∧ FromL A b cs s b' :=
  visL_of (vis_from A k) cs b o h
end Go.Proofs.Yteigepblocbnlaa.Gp
