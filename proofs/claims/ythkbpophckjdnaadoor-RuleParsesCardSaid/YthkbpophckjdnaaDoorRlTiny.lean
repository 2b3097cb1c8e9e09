/-
  What is handed in is tiny.
-/
import Derived.Test.YthkbpophckjdnaaDoorRlFrame
import Derived.Test.YthkbpophckjdnaaDoorRlLong
namespace Go.Proofs.YthkbpophckjdnaaDoor
open Go Go.RowKit Go.Shelf Go.Proofs Go.WideShapes

theorem tiny_ok {x : RX} (h : x.Ok) : x.Tiny := by
  have := h.g; have := h.o; have := h.n
  unfold reachBytes at *
  constructor <;> omega
theorem tiny_all {l : List RX} (h : ∀ x ∈ l, x.Ok) : ∀ x ∈ l, x.Tiny := fun x hx => tiny_ok (h x hx)
end Go.Proofs.YthkbpophckjdnaaDoor
