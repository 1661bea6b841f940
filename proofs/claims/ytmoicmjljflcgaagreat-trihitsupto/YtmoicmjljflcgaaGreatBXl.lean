/- penumbralaw08.TriHits: true. -/
import Derived.Test.YtmoicmjljflcgaaGreatJF
namespace Go.Proofs.YtmoicmjljflcgaaGreat.Sym
open Go Go.RowKit M Kahn
set_option maxRecDepth 1000000
set_option linter.unusedSimpArgs false
set_option linter.unusedVariables false

set_option maxHeartbeats 16000000 in
theorem thits_at (o1 o2 o3 d1 d2 d3 a1 a2 a3 b1 b2 b3 c1 c2 c3 : Rat) (K : Nat) (K1 : 1 ≤ K) (hK : K ≤ 1048576) : At Tryz.prog 4 [mkR [o1, o2, o3] K, mkR [d1, d2, d3] K, mkR [a1, a2, a3, b1, b2, b3, c1, c2, c3] K] ⟨.inl ⟨some (.inl (.bool true))⟩⟩ := by
  have i0 : ((0 : Int) : Rat) / ((1 : Int) : Rat) = 0 := by decide +kernel
  have i1 : ((1 : Int) : Rat) / ((1 : Int) : Rat) = 1 := by decide +kernel
  have i2 : ((-2 : Int) : Rat) / ((1 : Int) : Rat) = -2 := by decide +kernel
  have i3 : ((3 : Int) : Rat) / ((1 : Int) : Rat) = 3 := by decide +kernel
  have im : ((-1 : Int) : Rat) / ((1 : Int) : Rat) = -1 := by decide +kernel
  have iq : ((1 : Int) : Rat) / ((4 : Int) : Rat) = 1 / 4 := by decide +kernel
  cases hk : htOk ((((b2 - a2) * (c3 - a3) - (b3 - a3) * (c2 - a2)) * (a1 - o1) + ((b3 - a3) * (c1 - a1) - (b1 - a1) * (c3 - a3)) * (a2 - o2) + ((b1 - a1) * (c2 - a2) - (b2 - a2) * (c1 - a1)) * (a3 - o3)) / (((b2 - a2) * (c3 - a3) - (b3 - a3) * (c2 - a2)) * d1 + ((b3 - a3) * (c1 - a1) - (b1 - a1) * (c3 - a3)) * d2 + ((b1 - a1) * (c2 - a2) - (b2 - a2) * (c1 - a1)) * d3)) ((((a2 - o2) * d3 - (a3 - o3) * d2) * (c1 - a1) + ((a3 - o3) * d1 - (a1 - o1) * d3) * (c2 - a2) + ((a1 - o1) * d2 - (a2 - o2) * d1) * (c3 - a3)) / (((b2 - a2) * (c3 - a3) - (b3 - a3) * (c2 - a2)) * d1 + ((b3 - a3) * (c1 - a1) - (b1 - a1) * (c3 - a3)) * d2 + ((b1 - a1) * (c2 - a2) - (b2 - a2) * (c1 - a1)) * d3)) ((((a2 - o2) * d3 - (a3 - o3) * d2) * (b1 - a1) + ((a3 - o3) * d1 - (a1 - o1) * d3) * (b2 - a2) + ((a1 - o1) * d2 - (a2 - o2) * d1) * (b3 - a3)) / (-(((b2 - a2) * (c3 - a3) - (b3 - a3) * (c2 - a2)) * d1 + ((b3 - a3) * (c1 - a1) - (b1 - a1) * (c3 - a3)) * d2 + ((b1 - a1) * (c2 - a2) - (b2 - a2) * (c1 - a1)) * d3))) with
  | true =>
    refine At.ok (fuel := 100) (hs := [true, true, true, true]) S19_ok Tryz.func4 (by kernel_rfl) ?_
    simp (maxSteps := 10000000) only [Tryz.f4, go_sem, hk, decide_eq_true_eq, decide_eq_false_iff_not, ne_eq, not_true_eq_false, not_false_eq_true, Decidable.not_not, beq_iff_eq, beq_eq_false_iff_ne, bne_eq_false_iff_eq, bne_iff_ne, qsgn_zero, qsgn_le, qsgn_lt, qsgn_gt, qsgn_ge, eq_self, decide_true, decide_false, and_self, i0, i1, i2, i3, im, iq, Nat.reduceAdd, Nat.reduceSub, Nat.reduceMul, Int.reduceAdd, Int.reduceSub, Int.reduceToNat]
    and_intros
    all_goals first | with_reducible rfl | assumption | omega | decide | (grind)
  | false =>
    refine At.ok (fuel := 100) (hs := [false, false, true, true]) S19_ok Tryz.func4 (by kernel_rfl) ?_
    simp (maxSteps := 10000000) only [Tryz.f4, go_sem, hk, decide_eq_true_eq, decide_eq_false_iff_not, ne_eq, not_true_eq_false, not_false_eq_true, Decidable.not_not, beq_iff_eq, beq_eq_false_iff_ne, bne_eq_false_iff_eq, bne_iff_ne, qsgn_zero, qsgn_le, qsgn_lt, qsgn_gt, qsgn_ge, eq_self, decide_true, decide_false, and_self, i0, i1, i2, i3, im, iq, Nat.reduceAdd, Nat.reduceSub, Nat.reduceMul, Int.reduceAdd, Int.reduceSub, Int.reduceToNat]
    and_intros
    all_goals first | with_reducible rfl | assumption | omega | decide | (grind)
end Go.Proofs.YtmoicmjljflcgaaGreat.Sym
