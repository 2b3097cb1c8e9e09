/-
  A REGION WHOSE ORDER IS DRAWN, AS A FLOW OF DATA: each operation is looked at once, not in each order: what it leaves meets a condition that stays, whatever memory is made behind it. No program is named here.
-/
import Derived.Orders
import Derived.Below
import Derived.WalkKit
namespace Go.Proofs.Ytopehblbkffncaa
open Go Go.RowKit

/-- What an operation's value meets, and goes on to meet whatever the region does behind it. -/
structure Spec (T : World → World → Prop) where
  met : Value → World → Prop
  keep : ∀ v w w', met v w → T w w' → met v w'
def Spec.any {T : World → World → Prop} : Spec T := ⟨fun _ _ => True, fun _ _ _ _ _ => trivial⟩
def Spec.is {T : World → World → Prop} (c : Value) : Spec T := ⟨fun v _ => v = c, fun _ _ _ h _ => h⟩
/-- Nothing below B is turned: what a region does that makes memory alone. -/
def Makes (w w' : World) : Prop := Below w.heap.size w w'
theorem Makes.refl (w : World) : Makes w w := Below.refl _ w
theorem Makes.trans {a b c : World} (h : Makes a b) (k : Makes b c) : Makes a c := Below.trans h (Below.mono k h.size)

section
variable {P : Program} {ops : Array Oper} {Q : Exit → Act → World → Prop} {md : Region.Mode} {T : World → World → Prop}

/-- In the midst of a region: what is listed has left what it should; all else is as it was. -/
structure Flow (T : World → World → Prop) (md : Region.Mode) (ops : Array Oper) (sp : List (Spec T)) (a0 : Act) (w0 : World) (listed : Array Bool) (a : Act) (w : World) : Prop where
  size : a.tmps.size = a0.tmps.size
  defers : a.defers = a0.defers
  lsize : listed.size = ops.size
  closed : ∀ (j : Nat) o, ops[j]? = some o → listed.getD j false = true → ∀ e ∈ o.after, Region.binds md e = true → listed.getD e.on false = true
  old : ∀ t, (∀ (j : Nat) o, ops[j]? = some o → o.dst = some t → listed.getD j false = false) → a.tmps[t]? = a0.tmps[t]?
  new : ∀ (j : Nat) o t, ops[j]? = some o → o.dst = some t → listed.getD j false = true → ∃ v, a.tmps[t]? = some v ∧ (sp.getD j Spec.any).met v w
  to : T w0 w

def dstsApart (ops : Array Oper) : Bool :=
  (List.range ops.size).all fun i => (List.range ops.size).all fun j => i == j || (match (ops[i]?).bind (·.dst), (ops[j]?).bind (·.dst) with | some s, some t => s != t | _, _ => true)
def dstsIn (ops : Array Oper) (n : Nat) : Bool := ops.all fun o => match o.dst with | some t => decide (t < n) | none => true
def afterBack (ops : Array Oper) : Bool := (List.range ops.size).all fun i => match ops[i]? with | some o => o.after.all (fun e => decide (e.on < i)) | none => true

theorem dstsApart_spec (h : dstsApart ops = true) {i j : Nat} {oi oj : Oper} {t : Tmp} (hi : ops[i]? = some oi) (hj : ops[j]? = some oj) (di : oi.dst = some t) (dj : oj.dst = some t) : i = j := by
  have li := (Array.getElem?_eq_some_iff.1 hi).1
  have lj := (Array.getElem?_eq_some_iff.1 hj).1
  have h1 := List.all_eq_true.1 (List.all_eq_true.1 h i (List.mem_range.2 li)) j (List.mem_range.2 lj)
  simp only [hi, hj, Option.bind_some, di, dj, bne_self_eq_false, Bool.or_false, beq_iff_eq] at h1
  exact h1
theorem dstsIn_spec {n : Nat} (h : dstsIn ops n = true) {j : Nat} {o : Oper} {t : Tmp} (hj : ops[j]? = some o) (d : o.dst = some t) : t < n := by
  have h1 := Array.all_eq_true_iff_forall_mem.1 h o (Array.mem_of_getElem? hj)
  simpa only [d, decide_eq_true_eq] using h1
theorem afterBack_spec (h : afterBack ops = true) {j : Nat} {o : Oper} (hj : ops[j]? = some o) : ∀ e ∈ o.after, e.on < j := fun e he => by
  have lj := (Array.getElem?_eq_some_iff.1 hj).1
  have h1 := List.all_eq_true.1 h j (List.mem_range.2 lj)
  simp only [hj] at h1
  have h2 := Array.all_eq_true_iff_forall_mem.1 h1 e he
  simpa only [decide_eq_true_eq] using h2

/-- Nothing is ready: all are listed. -/
theorem all_listed (hb : afterBack ops = true) {listed : Array Bool} (hl : listed.size = ops.size) (hr : Region.ready md ops listed = []) : ∀ i, i < ops.size → listed.getD i false = true := by
  intro i
  induction i using Nat.strongRecOn with
  | ind i ih =>
    intro hi
    cases hc : listed.getD i false with
    | true => rfl
    | false =>
      have hmem : i ∈ Region.ready md ops listed := mem_ready.2 ⟨by
          have e : listed.getD i true = listed.getD i false := by simp [hl, hi]
          rw [e, hc], ops[i], Array.getElem?_eq_getElem hi, fun e he _ => by
          have h1 := afterBack_spec hb (Array.getElem?_eq_getElem hi) e he
          exact ih e.on h1 (by omega)⟩
      rw [hr] at hmem
      cases hmem

def unlisted (ops : Array Oper) (listed : Array Bool) : Nat := (List.range ops.size).countP fun i => !listed.getD i true
theorem countP_less {α : Type} {p q : α → Bool} : ∀ (l : List α), (∀ x ∈ l, q x = true → p x = true) → (∃ x ∈ l, p x = true ∧ q x = false) → l.countP q < l.countP p
  | [], _, ⟨_, h, _⟩ => by cases h
  | y :: l, hq, ⟨x, hx, hp, hn⟩ => by
    rw [List.countP_cons, List.countP_cons]
    have hle : l.countP q ≤ l.countP p := List.countP_mono_left fun x hx => hq x (List.mem_cons_of_mem _ hx)
    rcases List.mem_cons.1 hx with rfl | hx
    · rw [hp, hn]; simp only [if_true, Bool.false_eq_true, if_false]; omega
    · have := countP_less l (fun x hx => hq x (List.mem_cons_of_mem _ hx)) ⟨x, hx, hp, hn⟩
      have h1 : (if q y = true then 1 else 0) ≤ (if p y = true then 1 else 0) := by
        have := hq y List.mem_cons_self
        cases hqy : q y <;> cases hpy : p y <;> simp_all
      omega

/-- **THE LAW.** -/
theorem wpAny_flow {sp : List (Spec T)} {a0 : Act} {w0 : World} (htr : ∀ a b c, T a b → T b c → T a c) (hd : dstsApart ops = true) (hi : dstsIn ops a0.tmps.size = true) (hb : afterBack ops = true)
    (step : ∀ (i : Nat) o listed a w, ops[i]? = some o → i ∈ Region.ready md ops listed → Flow T md ops sp a0 w0 listed a w →
      wpOp P ops Q i (fun a' w' => ∃ v, a' = a.put o.dst v ∧ (sp.getD i Spec.any).met v w' ∧ T w w') a w)
    (fin : ∀ listed a w, (∀ i, i < ops.size → listed.getD i false = true) → Flow T md ops sp a0 w0 listed a w → Q .normal a w) :
    ∀ (fuel : Nat) (listed : Array Bool) (a : Act) (w : World), unlisted ops listed ≤ fuel → Flow T md ops sp a0 w0 listed a w → wpAny P md ops Q fuel listed a w := by
  intro fuel
  induction fuel with
  | zero =>
    intro listed a w hu hf
    have hr : Region.ready md ops listed = [] := by
      cases hr : Region.ready md ops listed with
      | nil => rfl
      | cons x xs =>
        have hx : x ∈ Region.ready md ops listed := by rw [hr]; exact List.mem_cons_self
        obtain ⟨h0, o, ho, _⟩ := mem_ready.1 hx
        have h1 : 0 < unlisted ops listed := List.countP_pos_iff.2 ⟨x, List.mem_range.2 (Array.getElem?_eq_some_iff.1 ho).1, by rw [h0]; rfl⟩
        omega
    exact ⟨hr, fin listed a w (all_listed hb hf.lsize hr) hf⟩
  | succ fuel ih =>
    intro listed a w hu hf
    refine ⟨fun hr => fin listed a w (all_listed hb hf.lsize hr) hf, fun i hr => ?_⟩
    obtain ⟨h0, o, ho, hdep⟩ := mem_ready.1 hr
    have hlt := (Array.getElem?_eq_some_iff.1 ho).1
    refine wpOp_mono (fun a' w' => ?_) (step i o listed a w ho hr hf)
    rintro ⟨v, rfl, hv, hbw⟩
    have hgs : (listed.setIfInBounds i true).getD i false = true := by simp [hf.lsize, hlt]
    refine ih _ _ _ ?_ ⟨?_, ?_, ?_, ?_, ?_, ?_, htr _ _ _ hf.to hbw⟩
    · have : unlisted ops (listed.setIfInBounds i true) < unlisted ops listed := by
        refine countP_less _ (fun x _ hx => ?_) ⟨i, List.mem_range.2 hlt, by rw [h0]; rfl, ?_⟩
        · by_cases e : i = x
          · subst e
            rw [h0]; rfl
          · rw [getD_set_ne true e] at hx; exact hx
        · simp [hf.lsize, hlt]
      omega
    · rw [← hf.size]; unfold Act.put; split <;> simp
    · rw [← hf.defers]; unfold Act.put; split <;> rfl
    · rw [Array.size_setIfInBounds]; exact hf.lsize
    · intro j oj hj hl e he hbd
      by_cases ej : i = j
      · subst ej
        rw [ho] at hj
        cases hj
        exact getD_set_true (hdep e he hbd)
      · rw [getD_set_ne false ej] at hl
        exact getD_set_true (hf.closed j oj hj hl e he hbd)
    · intro t ht
      have hne : o.dst ≠ some t := fun e => by
        have := ht i o ho e
        rw [hgs] at this
        cases this
      have e1 : (a.put o.dst v).tmps[t]? = a.tmps[t]? := by
        unfold Act.put
        split
        · rename_i d hdst
          have : d ≠ t := fun e => hne (by rw [hdst, e])
          simp [Array.getElem?_setIfInBounds_ne this]
        · rfl
      rw [e1]
      refine hf.old t fun j oj hj dj => ?_
      have := ht j oj hj dj
      by_cases ej : i = j
      · subst ej
        rw [hgs] at this
        cases this
      · rwa [getD_set_ne false ej] at this
    · intro j oj t hj dj hl
      by_cases ej : i = j
      · subst ej
        rw [ho] at hj
        cases hj
        refine ⟨v, ?_, hv⟩
        have hts : t < a.tmps.size := by rw [hf.size]; exact dstsIn_spec hi ho dj
        unfold Act.put
        rw [dj]
        simp [hts]
      · rw [getD_set_ne false ej] at hl
        obtain ⟨u, hu', hm⟩ := hf.new j oj t hj dj hl
        refine ⟨u, ?_, (sp.getD j Spec.any).keep u w w' hm hbw⟩
        unfold Act.put
        split
        · rename_i d hdst
          have : d ≠ t := fun e => ej (dstsApart_spec hd ho hj (by rw [hdst, e]) dj)
          simp [Array.getElem?_setIfInBounds_ne this, hu']
        · exact hu'

/-- THE BEGINNING. -/
theorem wp_region_flow {id : Nat} {a : Act} {w : World} (sp : List (Spec T)) (h1 : ∀ w, T w w) (h2 : ∀ a b c, T a b → T b c → T a c) (hm : P.follows .mixedOrders = true) (hd : dstsApart ops = true) (hi : dstsIn ops a.tmps.size = true) (hb : afterBack ops = true)
    (step : ∀ (i : Nat) o listed a' w', ops[i]? = some o → i ∈ Region.ready .any ops listed → Flow T .any ops sp a w.drew listed a' w' →
      wpOp P ops Q i (fun a'' w'' => ∃ v, a'' = a'.put o.dst v ∧ (sp.getD i Spec.any).met v w'' ∧ T w' w'') a' w')
    (fin : ∀ listed a' w', (∀ i, i < ops.size → listed.getD i false = true) → Flow T .any ops sp a w.drew listed a' w' → Q .normal a' w') : (Code.region id ops true).wp P Q a w := by
  refine wp_region_any hm ?_
  refine wpAny_flow h2 hd hi hb step fin ops.size _ _ _ ?_ ⟨rfl, rfl, Array.size_replicate, fun j o hj hl => ?_, fun _ _ => rfl, fun j o t hj dj hl => ?_, h1 _⟩
  · unfold unlisted
    have h := List.countP_le_length (p := fun i => !(Array.replicate ops.size false).getD i true) (l := List.range ops.size)
    rwa [List.length_range] at h
  · have hlt := (Array.getElem?_eq_some_iff.1 hj).1
    simp [hlt] at hl
  · have hlt := (Array.getElem?_eq_some_iff.1 hj).1
    simp [hlt] at hl

/-! ### What an operation finds -/
def dependsOn (md : Region.Mode) (ops : Array Oper) (i j : Nat) : Bool := ((ops[i]?).map fun o => o.after.toList.any fun e => Region.binds md e && e.on == j).getD false
/-- Operation i waits for j, which leaves slot t. -/
def feeds (md : Region.Mode) (ops : Array Oper) (i j t : Nat) : Bool := dependsOn md ops i j && ((ops[j]?).bind (·.dst) == some t)
def noDst (ops : Array Oper) (t : Nat) : Bool := ops.all fun o => o.dst != some t
/-- Slot t is left by j alone, which waits for i. -/
def laterDst (md : Region.Mode) (ops : Array Oper) (i j t : Nat) : Bool := dependsOn md ops j i && (List.range ops.size).all fun k => k == j || ((ops[k]?).bind (·.dst) != some t)

theorem ready_on {listed : Array Bool} {i j : Nat} (hr : i ∈ Region.ready md ops listed) (h : dependsOn md ops i j = true) : listed.getD j false = true := by
  obtain ⟨_, o, ho, hall⟩ := mem_ready.1 hr
  unfold dependsOn at h
  rw [ho] at h
  simp only [Option.map_some, Option.getD_some, List.any_eq_true, Bool.and_eq_true, beq_iff_eq] at h
  obtain ⟨e, he, hb, rfl⟩ := h
  exact hall e (by simpa using he) hb
theorem Flow.on {sp : List (Spec T)} {a0 a : Act} {w0 w : World} {listed : Array Bool} (hf : Flow T md ops sp a0 w0 listed a w) {i j : Nat} (hl : listed.getD i false = true) (h : dependsOn md ops i j = true) : listed.getD j false = true := by
  unfold dependsOn at h
  cases ho : ops[i]? with
  | none => rw [ho] at h; cases h
  | some o =>
    rw [ho] at h
    simp only [Option.map_some, Option.getD_some, List.any_eq_true, Bool.and_eq_true, beq_iff_eq] at h
    obtain ⟨e, he, hb, rfl⟩ := h
    exact hf.closed i o ho hl e (by simpa using he) hb
theorem eval_of {a : Act} {t : Tmp} {v : Value} (h : a.tmps[t]? = some v) : a.eval (.tmp t) = v := by simp [Act.eval, h]
theorem Flow.slot {sp : List (Spec T)} {a0 a : Act} {w0 w : World} {listed : Array Bool} (hf : Flow T md ops sp a0 w0 listed a w) {i : Nat} (hr : i ∈ Region.ready md ops listed) (j t : Nat) (h : feeds md ops i j t = true) : ∃ v, a.eval (.tmp t) = v ∧ (sp.getD j Spec.any).met v w := by
  unfold feeds at h
  rw [Bool.and_eq_true] at h
  have hl := ready_on hr h.1
  cases ho : ops[j]? with
  | none => rw [ho] at h; simp at h
  | some o =>
    rw [ho] at h
    obtain ⟨v, hv, hm⟩ := hf.new j o t ho (by simpa using h.2) hl
    exact ⟨v, eval_of hv, hm⟩
theorem Flow.cell {sp : List (Spec T)} {a0 a : Act} {w0 w : World} {listed : Array Bool} (hf : Flow T md ops sp a0 w0 listed a w) {i : Nat} (hr : i ∈ Region.ready md ops listed) (j t : Nat) (h : feeds md ops i j t = true) : ∃ v, a.tmps[t]? = some v ∧ (sp.getD j Spec.any).met v w := by
  unfold feeds at h
  rw [Bool.and_eq_true] at h
  have hl := ready_on hr h.1
  cases ho : ops[j]? with
  | none => rw [ho] at h; simp at h
  | some o =>
    rw [ho] at h
    exact hf.new j o t ho (by simpa using h.2) hl
/-- When all is done. -/
theorem Flow.done {sp : List (Spec T)} {a0 a : Act} {w0 w : World} {listed : Array Bool} (hf : Flow T md ops sp a0 w0 listed a w) (hall : ∀ i, i < ops.size → listed.getD i false = true) (j t : Nat) (h : (ops[j]?).bind (·.dst) = some t) : ∃ v, a.tmps[t]? = some v ∧ (sp.getD j Spec.any).met v w := by
  cases ho : ops[j]? with
  | none => rw [ho] at h; simp at h
  | some o =>
    rw [ho] at h
    exact hf.new j o t ho (by simpa using h) (hall j (Array.getElem?_eq_some_iff.1 ho).1)
theorem Flow.kept {sp : List (Spec T)} {a0 a : Act} {w0 w : World} {listed : Array Bool} (hf : Flow T md ops sp a0 w0 listed a w) (t : Nat) {v : Value} (h : noDst ops t = true) (h0 : a0.tmps[t]? = some v) : a.eval (.tmp t) = v := by
  refine eval_of ((hf.old t fun j o hj dj => ?_).trans h0)
  have h1 := Array.all_eq_true_iff_forall_mem.1 h o (Array.mem_of_getElem? hj)
  rw [dj] at h1
  simp at h1
theorem Flow.before {sp : List (Spec T)} {a0 a : Act} {w0 w : World} {listed : Array Bool} (hf : Flow T md ops sp a0 w0 listed a w) {i : Nat} (hr : i ∈ Region.ready md ops listed) (j t : Nat) {v : Value} (h : laterDst md ops i j t = true) (h0 : a0.tmps[t]? = some v) : a.eval (.tmp t) = v := by
  unfold laterDst at h
  rw [Bool.and_eq_true] at h
  refine eval_of ((hf.old t fun k o hk dk => ?_).trans h0)
  have lk := (Array.getElem?_eq_some_iff.1 hk).1
  have h1 := List.all_eq_true.1 h.2 k (List.mem_range.2 lk)
  rw [hk] at h1
  simp only [Option.bind_some, dk, bne_self_eq_false, Bool.or_false, beq_iff_eq] at h1
  subst h1
  cases hc : listed.getD k false with
  | false => rfl
  | true =>
    have h2 := hf.on hc h.1
    obtain ⟨h3, o', ho', _⟩ := mem_ready.1 hr
    have hlt : i < listed.size := by rw [hf.lsize]; exact (Array.getElem?_eq_some_iff.1 ho').1
    have e : listed.getD i true = listed.getD i false := by simp [hlt]
    rw [e, h2] at h3
    cases h3

theorem wpOp_plain {i : Nat} {o : Oper} {K : Act → World → Prop} {a : Act} {w : World} (ho : ops[i]? = some o) (hg : o.guard = none) (h : o.wp P a w K Q) : wpOp P ops Q i K a w := by
  unfold wpOp
  simp only [ho, Region.wanted, hg, if_true]
  exact .inl h
theorem wpOp_met {i : Nat} {o : Oper} {K : Act → World → Prop} {a : Act} {w : World} {g : Nat} {b : Bool} {t : Tmp} (ho : ops[i]? = some o) (hg : o.guard = some (g, b)) (ht : (ops[g]?).bind (·.dst) = some t) (hv : a.tmps[t]? = some (.bool b)) (h : o.wp P a w K Q) : wpOp P ops Q i K a w := by
  unfold wpOp
  have hw : Region.wanted o (yielded ops a.tmps) = true := by
    unfold Region.wanted yielded
    simp [hg, ht, hv]
  simp only [ho, hw, if_true]
  exact .inl h
/-- The operation's run, in the words of the law. -/
theorem wp_val {o : Oper} {a : Act} {w w' : World} {S : Spec T} (v : Value) (h : (execOp a.eval o).run P w = .ok (.value v) w') (hm : S.met v w') (hT : T w w') :
    o.wp P a w (fun a' w' => ∃ v, a' = a.put o.dst v ∧ S.met v w' ∧ T w w') Q := by
  unfold Oper.wp
  rw [h]
  exact ⟨v, rfl, hm, hT⟩
/-- A call that answers. -/
theorem wp_calls {o : Oper} {a : Act} {w : World} {S : Spec T} {f : FuncId} {args : Array Value} (h : (execOp a.eval o).run P w = .ok (.enter f args) w)
    (hc : Calls P f args w fun e w' => ∃ v, e = .returned v ∧ S.met v w' ∧ T w w') : o.wp P a w (fun a' w' => ∃ v, a' = a.put o.dst v ∧ S.met v w' ∧ T w w') Q := by
  unfold Oper.wp
  rw [h]
  refine Calls.mono hc ?_
  rintro e w' ⟨v, rfl, hm, hT⟩
  exact ⟨v, rfl, hm, hT⟩
end
end Go.Proofs.Ytopehblbkffncaa
