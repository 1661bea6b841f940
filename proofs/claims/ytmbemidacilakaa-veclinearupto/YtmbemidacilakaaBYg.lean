/- Blocks of any cells. -/
import Derived.Test.YtmbemidacilakaaAr
namespace Go.Proofs.Ytmbemidacilakaa
open Go.RowKit M Kahn
set_option maxRecDepth 100000

/-- Block g holds these cells, of a variable of this type. -/
structure Bk (w : World) (g : Nat) (ty : TypeId) (vs : List Value) : Prop where
  at_ : w.heap[g]? = some (.cells vs.toArray ty (0, 0))
section
variable {w w' : World} {g : Nat} {ty : TypeId} {vs : List Value}
theorem Bk.lt (h : Bk w g ty vs) : g < w.heap.size := (Array.getElem?_eq_some_iff.1 h.at_).1
theorem Bk.cell (h : Bk w g ty vs) (i : Nat) {v : Value} (hv : vs[i]? = some v) : w.cell? ⟨g, i, none⟩ = some v := by
  rw [cell_of_row w g i _ _ _ h.at_]
  simpa using hv
theorem Bk.free (h : Bk w g ty vs) (i : Nat) : w.frozen? ⟨g, i, none⟩ = false := frozen_of_row w g i _ _ h.at_
theorem Bk.keep (h : Bk w g ty vs) (hb : w'.heap[g]? = w.heap[g]?) : Bk w' g ty vs := ⟨by rw [hb]; exact h.at_⟩
theorem Bk.later (h : Bk w g ty vs) (hb : Below w.heap.size w w') : Bk w' g ty vs := h.keep (hb.block g h.lt)
theorem Bk.alloc (w : World) (ty : TypeId) (vs : List Value) : Bk (w.alloc (.cells vs.toArray ty)) w.heap.size ty vs := ⟨heap_alloc_new _ _⟩
theorem bx_one (w : World) (ty : TypeId) (vs : List Value) : ∃ w0, w0 = w.alloc (.cells vs.toArray ty) ∧ Bk w0 w.heap.size ty vs ∧ Below w.heap.size w w0 :=
  ⟨_, rfl, Bk.alloc w ty vs, (Below.refl _ _).alloc (Nat.le_refl _) _⟩
end
/-- A pointer to a block. -/
def ptr (g : Nat) : Value := .pointer (some ⟨g, 0, none⟩)
theorem ptr_inj (a b : Nat) (h : ptr a = ptr b) : a = b := by simpa [ptr] using h
end Go.Proofs.Ytmbemidacilakaa
