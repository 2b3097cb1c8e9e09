/-
  The calls of a disk, as a law uses them.
-/
import Derived.Test.YtojkifcclgecoaaDkOps
import Derived.Test.YtojkifcclgecoaaDkFits
namespace Go.Proofs.Ytojkifcclgecoaa.Dk
open Go Go.RowKit Go.Shelf Go.Proofs

/-- A disk that stands. -/
structure DS (B : Nat) (who : Nat → Nat) (w : World) (T g : Nat) (d : DDk) (n : Nat) : Prop where
  at_ : DiskAt B who w T g d
  fits : d.fits n
  fresh : Fresh who w
  le : B ≤ w.heap.size
def DP (B : Nat) (who : Nat → Nat) (w : World) (T g : Nat) (d : DDk) (n : Nat) (w' : World) : Prop := ∃ who', DS B who' w' T g d n ∧ Turn T (T + 26) who w who' w'
theorem DS.below {B : Nat} {who : Nat → Nat} {w w' : World} {T g n : Nat} {d : DDk} (h : DS B who w T g d n) (hb : Below w.heap.size w w') : DS B who w' T g d n := ⟨h.at_.below h.fits hb, h.fits, h.fresh.size hb.size, Nat.le_trans h.le hb.size⟩
theorem DS.mono {B : Nat} {who : Nat → Nat} {w : World} {T g n m : Nat} {d : DDk} (h : DS B who w T g d n) (hm : n ≤ m) : DS B who w T g d m := ⟨h.at_, h.fits.mono hm, h.fresh, h.le⟩
theorem DS.turn {B : Nat} {who who' : Nat → Nat} {w w' : World} {T U g n : Nat} {d : DDk} (h : DS B who w T g d n) (ht : Turn U (U + 26) who w who' w') (hf : Fresh who' w') (hU : 0 < U) (hne : U + 26 ≤ T ∨ T + 26 ≤ U) : DS B who' w' T g d n := ⟨h.at_.turn h.fits ht hU hne, h.fits, hf, Nat.le_trans h.le ht.size⟩
theorem DkW.dp {B : Nat} {who : Nat → Nat} {w w' : World} {T g n : Nat} {d : DDk} (h : DkW B who w T g d w') (hf : d.fits n) (hB : B ≤ w.heap.size) : DP B who w T g d n w' := by
  obtain ⟨who', h1, h2, h3⟩ := h
  exact ⟨who', ⟨h1, hf, h3, Nat.le_trans hB h2.size⟩, h2⟩

section
variable {B : Nat} {who : Nat → Nat} {w : World} {T g n : Nat} {d : DDk}
theorem DS.append (h : DS B who w T g d n) (hT : 0 < T) (hn : n ≤ 1000000) (a : Int) {A : Option Addr} {c m : Nat} {b : Bs} (hs : SlAt w A c b) (hbm : b.length = m) (hm : m ≤ 1000000) (hw : 0 < b.length → ∀ q o, A = some ⟨q, o, none⟩ → who q = 0) :
    Calls Try.prog 25 #[.pointer (some ⟨g, 0, none⟩), .int .i64 a, .slice A m c] w fun e w' => e = .returned (.int .i64 (appendE d a b : Nat)) ∧ DP B who w T g (appendD d a b) (n + b.length) w' :=
  (append_any B who w T g d n m a A c b hT h.at_ h.fits hn h.fresh h.le hs hbm hm hw).mono fun _ _ ⟨e, k⟩ => ⟨e, k.dp (appendD_fits h.fits a b) h.le⟩
theorem DS.cut (h : DS B who w T g d n) (hT : 0 < T) (hn : n ≤ 1000000) (a k : Int) :
    Calls Try.prog 46 #[.pointer (some ⟨g, 0, none⟩), .int .i64 a, .int .i64 k] w fun e w' => e = .returned (.int .i64 (cutE d a k : Nat)) ∧ DP B who w T g (cutD d a k) (n + 1) w' :=
  (cut_disk B who w T g d n a k hT h.at_ h.fits hn h.fresh h.le).mono fun _ _ ⟨e, k'⟩ => ⟨e, k'.dp (cutD_fits h.fits a k) h.le⟩
theorem DS.sync (h : DS B who w T g d n) (hT : 0 < T) (hn : n ≤ 1000000) (a : Int) :
    Calls Try.prog 43 #[.pointer (some ⟨g, 0, none⟩), .int .i64 a] w fun e w' => e = .returned (.int .i64 (syncE d a : Nat)) ∧ DP B who w T g (syncD d a) n w' :=
  (sync_any B who w T g d n a hT h.at_ h.fits hn h.fresh h.le).mono fun _ _ ⟨e, k⟩ => ⟨e, k.dp (syncD_fits h.fits a) h.le⟩
theorem DS.arm (h : DS B who w T g d n) (hT : 0 < T) (k : Int) :
    Calls Try.prog 13 #[.pointer (some ⟨g, 0, none⟩), .int .i64 k] w fun e w' => e = .returned (.tuple #[]) ∧ DP B who w T g (d.arm k) n w' :=
  (arm_any B who w T g d n k hT h.at_ h.fits h.fresh).mono fun _ _ ⟨e, k'⟩ => ⟨e, k'.dp (arm_fits h.fits k) h.le⟩
theorem DS.restart (h : DS B who w T g d n) (hT : 0 < T) (hn : n ≤ 1000000) (k : Int) (hk : k ≤ 9223372036854775807) :
    Calls Try.prog 19 #[.pointer (some ⟨g, 0, none⟩), .int .i64 k] w fun e w' => e = .returned (.tuple #[]) ∧ DP B who w T g (d.restart k) n w' :=
  (restart_disk B who w T g d n k hT h.at_ h.fits hn h.fresh h.le hk).mono fun _ _ ⟨e, k'⟩ => ⟨e, k'.dp (restart_fits h.fits k) h.le⟩
theorem DS.read (h : DS B who w T g d n) (hn : n ≤ 1000000) (a : Int) :
    Calls Try.prog 24 #[.pointer (some ⟨g, 0, none⟩), .int .i64 a] w fun e w' => ∃ v, e = .returned v ∧ OB w.heap.size w' v (d.readL a) ∧ Below w.heap.size w w' := read_any B who w T g d n a h.at_ h.fits hn
theorem DS.lasting (h : DS B who w T g d n) (hn : n ≤ 1000000) (a : Int) :
    Calls Try.prog 36 #[.pointer (some ⟨g, 0, none⟩), .int .i64 a] w fun e w' => ∃ v, e = .returned v ∧ OB w.heap.size w' v (d.lastL a) ∧ Below w.heap.size w w' := lasting_any B who w T g d n a h.at_ h.fits hn
theorem DS.used (h : DS B who w T g d n) (hn : n ≤ 1000000) :
    Calls Try.prog 33 #[.pointer (some ⟨g, 0, none⟩)] w fun e w' => e = .returned (.int .i64 (d.used : Nat)) ∧ w' = w := used_any B who w T g d n h.at_ h.fits (by omega)
theorem DS.dead (h : DS B who w T g d n) :
    Calls Try.prog 32 #[.pointer (some ⟨g, 0, none⟩)] w fun e w' => e = .returned (.bool d.dead) ∧ w' = w := dead_any B who w T g d h.at_
end
/-- A new disk where nothing of anyone's stands. -/
theorem new_ds (w : World) (a r : Int) :
    Calls Try.prog 11 #[.int .i64 a, .int .i64 r] w fun e w' => ∃ g, e = .returned (.pointer (some ⟨g, 0, none⟩)) ∧ ∃ who, DS w.heap.size who w' 1 g (DDk.new a r) 0 ∧ Turn 1 27 (fun _ => 0) w who w' :=
  (new_any (fun _ => 0) w 1 a r (fun _ _ => rfl)).mono fun _ _ ⟨g, e, _, who, h1, h2, h3, _⟩ => ⟨g, e, who, ⟨h1, new_fits a r, h3, h2.size⟩, h2⟩
theorem Turn.zero {lo hi : Nat} {a : Nat → Nat} {w1 w2 : World} (h : Turn lo hi (fun _ => 0) w1 a w2) (hlo : 0 < lo) : Below w1.heap.size w1 w2 := h.free hlo (fun _ _ => rfl) (Nat.le_refl _)
theorem Turn.arg {lo hi : Nat} {a : Nat → Nat} {w1 w2 : World} (h : Turn lo hi (fun _ => 0) w1 a w2) {q : Nat} (hq : q < w1.heap.size) : a q = 0 := h.same q hq
theorem SlAt.who {lo hi : Nat} {a : Nat → Nat} {w1 w2 : World} {A : Option Addr} {c : Nat} {b : Bs} (hs : SlAt w1 A c b) (h : Turn lo hi (fun _ => 0) w1 a w2) : 0 < b.length → ∀ q o, A = some ⟨q, o, Option.none⟩ → a q = 0 := fun hn q o e => by
  obtain ⟨g, o', e', hg⟩ := hs.bytes.lt hn
  rw [e] at e'; cases e'
  exact h.arg hg
end Go.Proofs.Ytojkifcclgecoaa.Dk
