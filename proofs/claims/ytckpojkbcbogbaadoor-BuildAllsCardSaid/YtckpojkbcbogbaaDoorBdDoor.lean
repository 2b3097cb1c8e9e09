/-
  Behind a deferred call only the results' slots are read.
-/
import Derived.Test.YtckpojkbcbogbaaDoorBdParse
import Derived.Defers
namespace Go.Proofs.YtckpojkbcbogbaaDoor
open Go Go.RowKit Go.Shelf Go.Proofs

theorem leaves_same {P : Program} {fn : Func} {R : Ending → World → Prop} {t t' : Array Value} (h : results fn t = results fn t') : ∀ (ds : List Deferred) (u : FrameMode) (w : World), Leaves P fn t R ds u w → Leaves P fn t' R ds u w
  | [], .returning, w, ⟨v, hr, hR⟩ => ⟨v, h ▸ hr, hR⟩
  | [], .panicking _, _, hx => hx
  | [], .run, _, hx => hx.elim
  | d :: ds, u, w, ⟨h1, fv, cap, f, args, h2, h3, h4⟩ => ⟨h1, fv, cap, f, args, h2, h3, h4.mono fun e u' w' hx => by
      cases e with
      | returned v => exact leaves_same h ds _ _ hx
      | panicked c => exact leaves_same h ds _ _ hx
      | outgrown => exact hx⟩
theorem all_results (t : Array Value) (d : Nat) (v : Value) (h2 : d ≠ 2) (h3 : d ≠ 3) : results Tryd.f11 (t.setIfInBounds d v) = results Tryd.f11 t := by
  have e2 : (t.setIfInBounds d v)[2]?.getD undef = t[2]?.getD undef := by rw [Array.getElem?_setIfInBounds_ne h2]
  have e3 : (t.setIfInBounds d v)[3]?.getD undef = t[3]?.getD undef := by rw [Array.getElem?_setIfInBounds_ne h3]
  simp [results, Tryd.f11, e2, e3]
theorem all_door {R : Ending → World → Prop} {c : List PanicEntry} {a : Act} {w : World} (d : Nat) (v : Value) (h2 : d ≠ 2) (h3 : d ≠ 3) (h : bodyPostD Tryd.prog Tryd.f11 R (.panic c) (a.put (some d) v) w) : bodyPostD Tryd.prog Tryd.f11 R (.panic c) a w :=
  leaves_same (all_results a.tmps d v h2 h3) _ _ _ h
end Go.Proofs.YtckpojkbcbogbaaDoor
