/- penumbralaw07.AffineBends: true. -/
import Derived.Test.YtlghjiahhojhmaaJD
namespace Go.Proofs.Ytlghjiahhojhmaa.Sym
open Go Go.RowKit M Kahn
set_option maxRecDepth 1000000
set_option linter.unusedSimpArgs false
set_option linter.unusedVariables false

set_option maxHeartbeats 16000000 in
theorem abends_at (p1 p2 p3 n1 n2 n3 k l x1 x2 x3 : Rat) (K : Nat) (K1 : 1 ≤ K) (hK : K ≤ 1048576) : At Try.prog 5 [mkR [p1, p2, p3, n1, n2, n3, k, l, x1, x2, x3] K] ⟨.inl ⟨some (.inl (.bool true))⟩⟩ := by
  have i0 : ((0 : Int) : Rat) / ((1 : Int) : Rat) = 0 := by decide +kernel
  have i1 : ((1 : Int) : Rat) / ((1 : Int) : Rat) = 1 := by decide +kernel
  have im : ((-1 : Int) : Rat) / ((1 : Int) : Rat) = -1 := by decide +kernel
  by_cases hN : n1 * n1 + n2 * n2 + n3 * n3 = 1
  · refine At.ok (fuel := 100) (hs := [true, true, true, true, true, true, true, true]) S12_ok Try.func5 (by kernel_rfl) ?_
    simp (maxSteps := 10000000) only [Try.f5, go_sem, hN, decide_eq_true_eq, decide_eq_false_iff_not, ne_eq, not_true_eq_false, not_false_eq_true, Decidable.not_not, beq_iff_eq, beq_eq_false_iff_ne, bne_eq_false_iff_eq, bne_iff_ne, qsgn_zero, eq_self, decide_true, decide_false, and_self, i0, i1, im, Nat.reduceAdd, Nat.reduceSub, Nat.reduceMul, Int.reduceAdd, Int.reduceSub, Int.reduceToNat]
    and_intros
    all_goals first | with_reducible rfl | omega | decide | (grind)
  · refine At.ok (fuel := 100) (hs := [true, false, true]) S12_ok Try.func5 (by kernel_rfl) ?_
    simp (maxSteps := 10000000) only [Try.f5, go_sem, hN, decide_eq_true_eq, decide_eq_false_iff_not, ne_eq, not_true_eq_false, not_false_eq_true, Decidable.not_not, beq_iff_eq, beq_eq_false_iff_ne, bne_eq_false_iff_eq, bne_iff_ne, qsgn_zero, eq_self, decide_true, decide_false, and_self, i0, i1, im, Nat.reduceAdd, Nat.reduceSub, Nat.reduceMul, Int.reduceAdd, Int.reduceSub, Int.reduceToNat]
    and_intros
    all_goals first | with_reducible rfl | omega | decide | (grind)
end Go.Proofs.Ytlghjiahhojhmaa.Sym
