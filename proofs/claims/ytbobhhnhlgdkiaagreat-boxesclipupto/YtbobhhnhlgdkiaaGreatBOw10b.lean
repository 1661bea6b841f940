/- penumbralaw10.BoxesClip: true. -/
import Derived.Test.YtbobhhnhlgdkiaaGreatJU
namespace Go.Proofs.YtbobhhnhlgdkiaaGreat.Sy
open Go Go.RowKit M Kahn
set_option maxRecDepth 1000000
set_option linter.unusedSimpArgs false
set_option linter.unusedVariables false

set_option maxHeartbeats 16000000 in
theorem boxesClip_at (o1 o2 o3 d1 d2 d3 b1 b2 b3 b4 b5 b6 : Rat) (K : Nat) (K1 : 1 ≤ K) (hK : K ≤ 1048576) (hk0 : True) (hk1 : True) (hk2 : True) : At Tryz.prog 3 [mkR [o1, o2, o3] K, mkR [d1, d2, d3] K, mkR [b1, b2, b3, b4, b5, b6] K] ⟨.inl (.held (.inr (.inl (.bool (true)))))⟩ := by
  have i0 : ((0 : Int) : Rat) / ((1 : Int) : Rat) = 0 := by decide +kernel
  have i1 : ((1 : Int) : Rat) / ((1 : Int) : Rat) = 1 := by decide +kernel
  have i2 : ((2 : Int) : Rat) / ((1 : Int) : Rat) = 2 := by decide +kernel
  have im : ((-1 : Int) : Rat) / ((1 : Int) : Rat) = -1 := by decide +kernel
  have hi : (btw o1 b1 b4 && btw o2 b2 b5 && btw o3 b3 b6) = inB ((b1, b2, b3), (b4, b5, b6)) (o1, o2, o3) := rfl
  cases hk : clOk (o1, o2, o3) (d1, d2, d3) ((b1, b2, b3), (b4, b5, b6)) with
  | false =>
    have hM : (cf (fun s => inB ((b1, b2, b3), (b4, b5, b6)) (onR (o1, o2, o3) (d1, d2, d3) s)) (cl0 (o1, o2, o3) (d1, d2, d3) ((b1, b2, b3), (b4, b5, b6)))).1 = false := hk
    have e1 : clFrom (o1, o2, o3) (d1, d2, d3) ((b1, b2, b3), (b4, b5, b6)) = (cf (fun s => inB ((b1, b2, b3), (b4, b5, b6)) (onR (o1, o2, o3) (d1, d2, d3) s)) (cl0 (o1, o2, o3) (d1, d2, d3) ((b1, b2, b3), (b4, b5, b6)))).2.1 := rfl
    have e2 : clTo (o1, o2, o3) (d1, d2, d3) ((b1, b2, b3), (b4, b5, b6)) = (cf (fun s => inB ((b1, b2, b3), (b4, b5, b6)) (onR (o1, o2, o3) (d1, d2, d3) s)) (cl0 (o1, o2, o3) (d1, d2, d3) ((b1, b2, b3), (b4, b5, b6)))).2.2 := rfl
    cases hh : inB ((b1, b2, b3), (b4, b5, b6)) (o1, o2, o3) with
    | false =>
      refine At.ok (fuel := 100) (hs := [false, false, true, true, false, false]) S2d_ok Tryz.func3 (by kernel_rfl) ?_
      simp (maxSteps := 10000000) only [Tryz.f3, go_sem, hk, hM, hi, hh, e1, e2, Bool.true_and, Bool.false_and, beq_self_eq_true, decide_true, Bool.and_self, i0, i1, i2, im, decide_eq_true_eq, decide_eq_false_iff_not, ne_eq, not_true_eq_false, not_false_eq_true, Decidable.not_not, beq_iff_eq, beq_eq_false_iff_ne, bne_eq_false_iff_eq, bne_iff_ne, qsgn_zero, qsgn_le, qsgn_lt, qsgn_gt, qsgn_ge, Nat.reduceAdd, Nat.reduceSub, Nat.reduceMul, Int.reduceAdd, Int.reduceSub, Int.reduceToNat]
      and_intros
      all_goals first | with_reducible rfl | omega | assumption | exact .inl rfl | exact id | (grind)
    | true =>
      refine At.ok (fuel := 100) (hs := [false, false, true, true, true, true]) S2d_ok Tryz.func3 (by kernel_rfl) ?_
      simp (maxSteps := 10000000) only [Tryz.f3, go_sem, hk, hM, hi, hh, e1, e2, Bool.true_and, Bool.false_and, beq_self_eq_true, decide_true, Bool.and_self, i0, i1, i2, im, decide_eq_true_eq, decide_eq_false_iff_not, ne_eq, not_true_eq_false, not_false_eq_true, Decidable.not_not, beq_iff_eq, beq_eq_false_iff_ne, bne_eq_false_iff_eq, bne_iff_ne, qsgn_zero, qsgn_le, qsgn_lt, qsgn_gt, qsgn_ge, Nat.reduceAdd, Nat.reduceSub, Nat.reduceMul, Int.reduceAdd, Int.reduceSub, Int.reduceToNat]
      and_intros
      all_goals first | with_reducible rfl | omega | assumption | exact .inl rfl | exact id | (grind)
  | true =>
    have hM : (cf (fun s => inB ((b1, b2, b3), (b4, b5, b6)) (onR (o1, o2, o3) (d1, d2, d3) s)) (cl0 (o1, o2, o3) (d1, d2, d3) ((b1, b2, b3), (b4, b5, b6)))).1 = true := hk
    have e1 : clFrom (o1, o2, o3) (d1, d2, d3) ((b1, b2, b3), (b4, b5, b6)) = (cf (fun s => inB ((b1, b2, b3), (b4, b5, b6)) (onR (o1, o2, o3) (d1, d2, d3) s)) (cl0 (o1, o2, o3) (d1, d2, d3) ((b1, b2, b3), (b4, b5, b6)))).2.1 := rfl
    have e2 : clTo (o1, o2, o3) (d1, d2, d3) ((b1, b2, b3), (b4, b5, b6)) = (cf (fun s => inB ((b1, b2, b3), (b4, b5, b6)) (onR (o1, o2, o3) (d1, d2, d3) s)) (cl0 (o1, o2, o3) (d1, d2, d3) ((b1, b2, b3), (b4, b5, b6)))).2.2 := rfl
    cases hh : inB ((b1, b2, b3), (b4, b5, b6)) (o1, o2, o3) with
    | false =>
      refine At.ok (fuel := 100) (hs := [true, true, true, true, false, false]) S2d_ok Tryz.func3 (by kernel_rfl) ?_
      simp (maxSteps := 10000000) only [Tryz.f3, go_sem, hk, hM, hi, hh, e1, e2, Bool.true_and, Bool.false_and, beq_self_eq_true, decide_true, Bool.and_self, i0, i1, i2, im, decide_eq_true_eq, decide_eq_false_iff_not, ne_eq, not_true_eq_false, not_false_eq_true, Decidable.not_not, beq_iff_eq, beq_eq_false_iff_ne, bne_eq_false_iff_eq, bne_iff_ne, qsgn_zero, qsgn_le, qsgn_lt, qsgn_gt, qsgn_ge, Nat.reduceAdd, Nat.reduceSub, Nat.reduceMul, Int.reduceAdd, Int.reduceSub, Int.reduceToNat]
      and_intros
      all_goals first | with_reducible rfl | omega | assumption | exact .inl rfl | exact id | (grind)
    | true =>
      refine At.ok (fuel := 100) (hs := [true, true, true, true, true, true]) S2d_ok Tryz.func3 (by kernel_rfl) ?_
      simp (maxSteps := 10000000) only [Tryz.f3, go_sem, hk, hM, hi, hh, e1, e2, Bool.true_and, Bool.false_and, beq_self_eq_true, decide_true, Bool.and_self, i0, i1, i2, im, decide_eq_true_eq, decide_eq_false_iff_not, ne_eq, not_true_eq_false, not_false_eq_true, Decidable.not_not, beq_iff_eq, beq_eq_false_iff_ne, bne_eq_false_iff_eq, bne_iff_ne, qsgn_zero, qsgn_le, qsgn_lt, qsgn_gt, qsgn_ge, Nat.reduceAdd, Nat.reduceSub, Nat.reduceMul, Int.reduceAdd, Int.reduceSub, Int.reduceToNat]
      and_intros
      all_goals first | with_reducible rfl | omega | assumption | exact .inl rfl | exact id | (grind)
theorem boxesClip_tp (o : V3) (d : V3) (b : B6) (K : Nat) (K1 : 1 ≤ K) (hK : K ≤ 1048576) (hk0 : True) (hk1 : True) (hk2 : True) : At Tryz.prog 3 [mkR [o.1, o.2.1, o.2.2] K, mkR [d.1, d.2.1, d.2.2] K, mkR [b.1.1, b.1.2.1, b.1.2.2, b.2.1, b.2.2.1, b.2.2.2] K] ⟨.inl (.held (.inr (.inl (.bool (true)))))⟩ :=
  boxesClip_at o.1 o.2.1 o.2.2 d.1 d.2.1 d.2.2 b.1.1 b.1.2.1 b.1.2.2 b.2.1 b.2.2.1 b.2.2.2 K K1 hK hk0 hk1 hk2
end Go.Proofs.YtbobhhnhlgdkiaaGreat.Sy
