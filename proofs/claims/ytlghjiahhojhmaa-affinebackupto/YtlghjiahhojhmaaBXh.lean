/- penumbralaw07.AffineBack: true. -/
import Derived.Test.YtlghjiahhojhmaaJD
namespace Go.Proofs.Ytlghjiahhojhmaa.Sym
open Go Go.RowKit M Kahn
set_option maxRecDepth 1000000
set_option linter.unusedSimpArgs false
set_option linter.unusedVariables false

set_option maxHeartbeats 16000000 in
theorem aback_at (a11 a12 a13 a21 a22 a23 a31 a32 a33 a41 a42 a43 b11 b12 b13 b21 b22 b23 b31 b32 b33 b41 b42 b43 p1 p2 p3 : Rat) (K : Nat) (K1 : 1 ≤ K) (hK : K ≤ 1048576) : At Try.prog 3 [mkR [a11, a12, a13, a21, a22, a23, a31, a32, a33, a41, a42, a43] K, mkR [b11, b12, b13, b21, b22, b23, b31, b32, b33, b41, b42, b43] K, mkR [p1, p2, p3] K] ⟨.inl ⟨some (.inl (.bool true))⟩⟩ := by
  have i0 : ((0 : Int) : Rat) / ((1 : Int) : Rat) = 0 := by decide +kernel
  have i1 : ((1 : Int) : Rat) / ((1 : Int) : Rat) = 1 := by decide +kernel
  have im : ((-1 : Int) : Rat) / ((1 : Int) : Rat) = -1 := by decide +kernel
  by_cases hz : a11 * (a22 * a33 - a23 * a32) + a12 * (a23 * a31 - a21 * a33) + a13 * (a21 * a32 - a22 * a31) = 0
  · have y1 := iv_no hz
    refine At.ok (fuel := 100) (hs := [true, true, true, false, true]) S12_ok Try.func3 (by kernel_rfl) ?_
    simp (maxSteps := 10000000) only [Try.f3, go_sem, hz, y1, decide_eq_true_eq, decide_eq_false_iff_not, ne_eq, not_true_eq_false, not_false_eq_true, Decidable.not_not, beq_iff_eq, beq_eq_false_iff_ne, bne_eq_false_iff_eq, bne_iff_ne, qsgn_zero, eq_self, decide_true, decide_false, and_self, i0, i1, im, Nat.reduceAdd, Nat.reduceSub, Nat.reduceMul, Int.reduceAdd, Int.reduceSub, Int.reduceToNat]
    and_intros
    all_goals first | with_reducible rfl | omega | decide | (grind)
  · obtain ⟨s, y0, hs, y1⟩ := iv_yes hz
    refine At.ok (fuel := 100) (hs := [true, true, true, true, true, true, true]) S12_ok Try.func3 (by kernel_rfl) ?_
    simp (maxSteps := 10000000) only [Try.f3, go_sem, hz, y1, decide_eq_true_eq, decide_eq_false_iff_not, ne_eq, not_true_eq_false, not_false_eq_true, Decidable.not_not, beq_iff_eq, beq_eq_false_iff_ne, bne_eq_false_iff_eq, bne_iff_ne, qsgn_zero, eq_self, decide_true, decide_false, and_self, i0, i1, im, Nat.reduceAdd, Nat.reduceSub, Nat.reduceMul, Int.reduceAdd, Int.reduceSub, Int.reduceToNat]
    and_intros
    all_goals first | with_reducible rfl | omega | decide | (grind)
end Go.Proofs.Ytlghjiahhojhmaa.Sym
