/- nat.Sub. -/
import Derived.Test.YthcclkjccaoniaaW4
namespace Go.Proofs.Ythcclkjccaoniaa
open Go.RowKit M

theorem sub_step {x y c : Nat} (hx : x < 4294967296) (hy : y < 4294967296) (hc : c ≤ 1) :
    ∃ v c' : Nat, ((x : Int) - y - c) % 4294967296 = (v : Int) ∧ bor (x : Int) (y : Int) (c : Int) = (c' : Int) ∧ v < 4294967296 ∧ c' ≤ 1 ∧ v + y + c = x + 4294967296 * c' := by
  unfold bor
  by_cases h : x < y + c
  · refine ⟨x + 4294967296 - y - c, 1, by omega, by rw [if_pos (by omega)]; rfl, by omega, by omega, by omega⟩
  · refine ⟨x - y - c, 0, by omega, by rw [if_neg (by omega)]; rfl, by omega, by omega, by omega⟩

end Go.Proofs.Ythcclkjccaoniaa
