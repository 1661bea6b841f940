/- penumbralaw10.BoxesWithin: true. -/
import Derived.Test.YtbobhhnhlgdkiaaJU
namespace Go.Proofs.Ytbobhhnhlgdkiaa.Sy
open Go Go.RowKit M Kahn
set_option maxRecDepth 1000000
set_option linter.unusedSimpArgs false
set_option linter.unusedVariables false

set_option maxHeartbeats 16000000 in
theorem boxesWithin_at (o1 o2 o3 d1 d2 d3 b1 b2 b3 b4 b5 b6 s : Rat) (K : Nat) (K1 : 1 ≤ K) (hK : K ≤ 1048576) (hk0 : True) (hk1 : True) (hk2 : True) : At Try.prog 4 [mkR [o1, o2, o3, d1, d2, d3] K, mkR [b1, b2, b3, b4, b5, b6] K, mkR [s] K] ⟨.inl (.held (.inr (.inl (.bool (true)))))⟩ := by
  have i0 : ((0 : Int) : Rat) / ((1 : Int) : Rat) = 0 := by decide +kernel
  have i1 : ((1 : Int) : Rat) / ((1 : Int) : Rat) = 1 := by decide +kernel
  have i2 : ((2 : Int) : Rat) / ((1 : Int) : Rat) = 2 := by decide +kernel
  have im : ((-1 : Int) : Rat) / ((1 : Int) : Rat) = -1 := by decide +kernel
  by_cases g1 : s < 0
  · cases hk : clOk (o1, o2, o3) (d1, d2, d3) ((b1, b2, b3), (b4, b5, b6)) with
    | false =>
      refine At.ok (fuel := 100) (hs := [false, true, true, true]) S2d_ok Try.func4 (by kernel_rfl) ?_
      simp (maxSteps := 10000000) only [Try.f4, go_sem, g1, hk, i0, i1, i2, im, decide_eq_true_eq, decide_eq_false_iff_not, ne_eq, not_true_eq_false, not_false_eq_true, Decidable.not_not, beq_iff_eq, beq_eq_false_iff_ne, bne_eq_false_iff_eq, bne_iff_ne, qsgn_zero, qsgn_le, qsgn_lt, qsgn_gt, qsgn_ge, Nat.reduceAdd, Nat.reduceSub, Nat.reduceMul, Int.reduceAdd, Int.reduceSub, Int.reduceToNat]
      and_intros
      all_goals first | with_reducible rfl | omega | assumption | exact .inl rfl | exact id | (grind)
    | true =>
      refine At.ok (fuel := 100) (hs := [true, true, true, true]) S2d_ok Try.func4 (by kernel_rfl) ?_
      simp (maxSteps := 10000000) only [Try.f4, go_sem, g1, hk, i0, i1, i2, im, decide_eq_true_eq, decide_eq_false_iff_not, ne_eq, not_true_eq_false, not_false_eq_true, Decidable.not_not, beq_iff_eq, beq_eq_false_iff_ne, bne_eq_false_iff_eq, bne_iff_ne, qsgn_zero, qsgn_le, qsgn_lt, qsgn_gt, qsgn_ge, Nat.reduceAdd, Nat.reduceSub, Nat.reduceMul, Int.reduceAdd, Int.reduceSub, Int.reduceToNat]
      and_intros
      all_goals first | with_reducible rfl | omega | assumption | exact .inl rfl | exact id | (grind)
  have W := clp_within (o1, o2, o3) (d1, d2, d3) ((b1, b2, b3), (b4, b5, b6)) (s := s) (by grind)
  have hW : inB ((b1, b2, b3), (b4, b5, b6)) (o1 + s * d1, o2 + s * d2, o3 + s * d3) = (clOk (o1, o2, o3) (d1, d2, d3) ((b1, b2, b3), (b4, b5, b6)) && (decide (clFrom (o1, o2, o3) (d1, d2, d3) ((b1, b2, b3), (b4, b5, b6)) ≤ s) && (still (d1, d2, d3) || decide (s ≤ clTo (o1, o2, o3) (d1, d2, d3) ((b1, b2, b3), (b4, b5, b6)))))) := W
  cases hk : clOk (o1, o2, o3) (d1, d2, d3) ((b1, b2, b3), (b4, b5, b6)) with
  | false =>
    rw [hk, Bool.false_and] at hW
    refine At.ok (fuel := 100) (hs := [false, true, false, false]) S2d_ok Try.func4 (by kernel_rfl) ?_
    simp (maxSteps := 10000000) only [Try.f4, go_sem, g1, hk, hW, Bool.false_and, i0, i1, i2, im, decide_eq_true_eq, decide_eq_false_iff_not, ne_eq, not_true_eq_false, not_false_eq_true, Decidable.not_not, beq_iff_eq, beq_eq_false_iff_ne, bne_eq_false_iff_eq, bne_iff_ne, qsgn_zero, qsgn_le, qsgn_lt, qsgn_gt, qsgn_ge, Nat.reduceAdd, Nat.reduceSub, Nat.reduceMul, Int.reduceAdd, Int.reduceSub, Int.reduceToNat]
    and_intros
    all_goals first | with_reducible rfl | omega | assumption | exact .inl rfl | exact id | (grind)
  | true =>
    rw [hk, Bool.true_and] at hW
    by_cases g2 : s - clFrom (o1, o2, o3) (d1, d2, d3) ((b1, b2, b3), (b4, b5, b6)) ≥ 0
    · rw [show decide (clFrom (o1, o2, o3) (d1, d2, d3) ((b1, b2, b3), (b4, b5, b6)) ≤ s) = true from decide_eq_true (by grind), Bool.true_and] at hW
      cases hs : still (d1, d2, d3) with
      | true =>
        rw [hs, Bool.true_or] at hW
        refine At.ok (fuel := 100) (hs := [true, true, false, true, true]) S2d_ok Try.func4 (by kernel_rfl) ?_
        simp (maxSteps := 10000000) only [Try.f4, go_sem, g1, g2, hk, hs, hW, Bool.true_and, i0, i1, i2, im, decide_eq_true_eq, decide_eq_false_iff_not, ne_eq, not_true_eq_false, not_false_eq_true, Decidable.not_not, beq_iff_eq, beq_eq_false_iff_ne, bne_eq_false_iff_eq, bne_iff_ne, qsgn_zero, qsgn_le, qsgn_lt, qsgn_gt, qsgn_ge, Nat.reduceAdd, Nat.reduceSub, Nat.reduceMul, Int.reduceAdd, Int.reduceSub, Int.reduceToNat]
        and_intros
        all_goals first | with_reducible rfl | omega | assumption | exact .inl rfl | exact id | (grind)
      | false =>
        rw [hs, Bool.false_or] at hW
        by_cases g3 : s - clTo (o1, o2, o3) (d1, d2, d3) ((b1, b2, b3), (b4, b5, b6)) ≤ 0
        · rw [show decide (s ≤ clTo (o1, o2, o3) (d1, d2, d3) ((b1, b2, b3), (b4, b5, b6))) = true from decide_eq_true (by grind)] at hW
          refine At.ok (fuel := 100) (hs := [true, true, false, true, true, true]) S2d_ok Try.func4 (by kernel_rfl) ?_
          simp (maxSteps := 10000000) only [Try.f4, go_sem, g1, g2, g3, hk, hs, hW, Bool.and_false, i0, i1, i2, im, decide_eq_true_eq, decide_eq_false_iff_not, ne_eq, not_true_eq_false, not_false_eq_true, Decidable.not_not, beq_iff_eq, beq_eq_false_iff_ne, bne_eq_false_iff_eq, bne_iff_ne, qsgn_zero, qsgn_le, qsgn_lt, qsgn_gt, qsgn_ge, Nat.reduceAdd, Nat.reduceSub, Nat.reduceMul, Int.reduceAdd, Int.reduceSub, Int.reduceToNat]
          and_intros
          all_goals first | with_reducible rfl | omega | assumption | exact .inl rfl | exact id | (grind)
        · rw [show decide (s ≤ clTo (o1, o2, o3) (d1, d2, d3) ((b1, b2, b3), (b4, b5, b6))) = false from decide_eq_false (by grind)] at hW
          refine At.ok (fuel := 100) (hs := [true, true, false, true, false, false]) S2d_ok Try.func4 (by kernel_rfl) ?_
          simp (maxSteps := 10000000) only [Try.f4, go_sem, g1, g2, g3, hk, hs, hW, Bool.and_false, i0, i1, i2, im, decide_eq_true_eq, decide_eq_false_iff_not, ne_eq, not_true_eq_false, not_false_eq_true, Decidable.not_not, beq_iff_eq, beq_eq_false_iff_ne, bne_eq_false_iff_eq, bne_iff_ne, qsgn_zero, qsgn_le, qsgn_lt, qsgn_gt, qsgn_ge, Nat.reduceAdd, Nat.reduceSub, Nat.reduceMul, Int.reduceAdd, Int.reduceSub, Int.reduceToNat]
          and_intros
          all_goals first | with_reducible rfl | omega | assumption | exact .inl rfl | exact id | (grind)
    · rw [show decide (clFrom (o1, o2, o3) (d1, d2, d3) ((b1, b2, b3), (b4, b5, b6)) ≤ s) = false from decide_eq_false (by grind), Bool.false_and] at hW
      refine At.ok (fuel := 100) (hs := [true, true, false, false, false]) S2d_ok Try.func4 (by kernel_rfl) ?_
      simp (maxSteps := 10000000) only [Try.f4, go_sem, g1, g2, hk, hW, i0, i1, i2, im, decide_eq_true_eq, decide_eq_false_iff_not, ne_eq, not_true_eq_false, not_false_eq_true, Decidable.not_not, beq_iff_eq, beq_eq_false_iff_ne, bne_eq_false_iff_eq, bne_iff_ne, qsgn_zero, qsgn_le, qsgn_lt, qsgn_gt, qsgn_ge, Nat.reduceAdd, Nat.reduceSub, Nat.reduceMul, Int.reduceAdd, Int.reduceSub, Int.reduceToNat]
      and_intros
      all_goals first | with_reducible rfl | omega | assumption | exact .inl rfl | exact id | (grind)
theorem boxesWithin_tp (ray : V3 × V3) (b : B6) (s : Rat) (K : Nat) (K1 : 1 ≤ K) (hK : K ≤ 1048576) (hk0 : True) (hk1 : True) (hk2 : True) : At Try.prog 4 [mkR [ray.1.1, ray.1.2.1, ray.1.2.2, ray.2.1, ray.2.2.1, ray.2.2.2] K, mkR [b.1.1, b.1.2.1, b.1.2.2, b.2.1, b.2.2.1, b.2.2.2] K, mkR [s] K] ⟨.inl (.held (.inr (.inl (.bool (true)))))⟩ :=
  boxesWithin_at ray.1.1 ray.1.2.1 ray.1.2.2 ray.2.1 ray.2.2.1 ray.2.2.2 b.1.1 b.1.2.1 b.1.2.2 b.2.1 b.2.2.1 b.2.2.2 s K K1 hK hk0 hk1 hk2
end Go.Proofs.Ytbobhhnhlgdkiaa.Sy
