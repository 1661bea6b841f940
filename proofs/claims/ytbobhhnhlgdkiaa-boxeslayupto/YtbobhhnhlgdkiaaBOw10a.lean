/- penumbralaw10.BoxesLay: true. -/
import Derived.Test.YtbobhhnhlgdkiaaJU
namespace Go.Proofs.Ytbobhhnhlgdkiaa.Sy
open Go Go.RowKit M Kahn
set_option maxRecDepth 1000000
set_option linter.unusedSimpArgs false
set_option linter.unusedVariables false

set_option maxHeartbeats 16000000 in
theorem boxesLay_at (l : List V3) (b : List B6) (K : Nat) (K1 : 1 ≤ K) (hK : K ≤ 1048576) (hk0 : l.length ≤ K) (hk1 : b.length ≤ K) : At Try.prog 3 [.slice (l.map (eG encV K)) [], .slice (b.map (eG encB K)) []] ⟨.inl (.held (.inr (.inl (.bool (true)))))⟩ := by
  have i0 : ((0 : Int) : Rat) / ((1 : Int) : Rat) = 0 := by decide +kernel
  have i1 : ((1 : Int) : Rat) / ((1 : Int) : Rat) = 1 := by decide +kernel
  have i2 : ((2 : Int) : Rat) / ((1 : Int) : Rat) = 2 := by decide +kernel
  have im : ((-1 : Int) : Rat) / ((1 : Int) : Rat) = -1 := by decide +kernel
  obtain ⟨L0, l0a, l0b, h0⟩ := rowG_map (e := encV) (sp := []) (by decide) K1 l
  obtain ⟨L1, l1a, l1b, h1⟩ := rowG_map (e := encB) (sp := []) (by decide) K1 b
  simp only [rowG] at h0 h1
  refine At.ok (fuel := 100) (hs := [true, true, true]) S2d_ok Try.func3 (by kernel_rfl) ?_
  simp (maxSteps := 10000000) only [Try.f3, go_sem, rowG, h0, h1, decide_true, Bool.and_self, i0, i1, i2, im, decide_eq_true_eq, decide_eq_false_iff_not, ne_eq, not_true_eq_false, not_false_eq_true, Decidable.not_not, beq_iff_eq, beq_eq_false_iff_ne, bne_eq_false_iff_eq, bne_iff_ne, qsgn_zero, qsgn_le, qsgn_lt, qsgn_gt, qsgn_ge, Nat.reduceAdd, Nat.reduceSub, Nat.reduceMul, Int.reduceAdd, Int.reduceSub, Int.reduceToNat]
  and_intros
  all_goals first | with_reducible rfl | omega | assumption | exact .inl rfl | exact id | (grind)
end Go.Proofs.Ytbobhhnhlgdkiaa.Sy
