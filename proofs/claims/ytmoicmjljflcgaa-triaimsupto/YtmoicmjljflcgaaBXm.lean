/- penumbralaw08.TriAims: true. -/
import Derived.Test.YtmoicmjljflcgaaJF
namespace Go.Proofs.Ytmoicmjljflcgaa.Sym
open Go Go.RowKit M Kahn
set_option maxRecDepth 1000000
set_option linter.unusedSimpArgs false
set_option linter.unusedVariables false

section
variable (o1 o2 o3 a1 a2 a3 b1 b2 b3 c1 c2 c3 u v k : Rat)
theorem aim_E : ((b2 - a2) * (c3 - a3) - (b3 - a3) * (c2 - a2)) * ((a1 + u * (b1 - a1) + v * (c1 - a1)) - o1) + ((b3 - a3) * (c1 - a1) - (b1 - a1) * (c3 - a3)) * ((a2 + u * (b2 - a2) + v * (c2 - a2)) - o2) + ((b1 - a1) * (c2 - a2) - (b2 - a2) * (c1 - a1)) * ((a3 + u * (b3 - a3) + v * (c3 - a3)) - o3) = ((b2 - a2) * (c3 - a3) - (b3 - a3) * (c2 - a2)) * (a1 - o1) + ((b3 - a3) * (c1 - a1) - (b1 - a1) * (c3 - a3)) * (a2 - o2) + ((b1 - a1) * (c2 - a2) - (b2 - a2) * (c1 - a1)) * (a3 - o3) := by grind
theorem aim_D : ((b2 - a2) * (c3 - a3) - (b3 - a3) * (c2 - a2)) * (k * ((a1 + u * (b1 - a1) + v * (c1 - a1)) - o1)) + ((b3 - a3) * (c1 - a1) - (b1 - a1) * (c3 - a3)) * (k * ((a2 + u * (b2 - a2) + v * (c2 - a2)) - o2)) + ((b1 - a1) * (c2 - a2) - (b2 - a2) * (c1 - a1)) * (k * ((a3 + u * (b3 - a3) + v * (c3 - a3)) - o3)) = k * (((b2 - a2) * (c3 - a3) - (b3 - a3) * (c2 - a2)) * (a1 - o1) + ((b3 - a3) * (c1 - a1) - (b1 - a1) * (c3 - a3)) * (a2 - o2) + ((b1 - a1) * (c2 - a2) - (b2 - a2) * (c1 - a1)) * (a3 - o3)) := by rw [← aim_E o1 o2 o3 a1 a2 a3 b1 b2 b3 c1 c2 c3 u v]; grind
theorem aim_u (x1 x2 x3 z1 z2 z3 y1 y2 y3 : Rat) : (x2 * (k * (x3 + u * z3 + v * y3)) - x3 * (k * (x2 + u * z2 + v * y2))) * y1 + (x3 * (k * (x1 + u * z1 + v * y1)) - x1 * (k * (x3 + u * z3 + v * y3))) * y2 + (x1 * (k * (x2 + u * z2 + v * y2)) - x2 * (k * (x1 + u * z1 + v * y1))) * y3 = k * u * ((z2 * y3 - z3 * y2) * x1 + (z3 * y1 - z1 * y3) * x2 + (z1 * y2 - z2 * y1) * x3) := by grind
theorem aim_v (x1 x2 x3 z1 z2 z3 y1 y2 y3 : Rat) : (x2 * (k * (x3 + u * z3 + v * y3)) - x3 * (k * (x2 + u * z2 + v * y2))) * z1 + (x3 * (k * (x1 + u * z1 + v * y1)) - x1 * (k * (x3 + u * z3 + v * y3))) * z2 + (x1 * (k * (x2 + u * z2 + v * y2)) - x2 * (k * (x1 + u * z1 + v * y1))) * z3 = -(k * v * ((z2 * y3 - z3 * y2) * x1 + (z3 * y1 - z1 * y3) * x2 + (z1 * y2 - z2 * y1) * x3)) := by grind
theorem aim_d1 : k * ((a1 + u * (b1 - a1) + v * (c1 - a1)) - o1) = k * ((a1 - o1) + u * (b1 - a1) + v * (c1 - a1)) := by grind
theorem aim_d2 : k * ((a2 + u * (b2 - a2) + v * (c2 - a2)) - o2) = k * ((a2 - o2) + u * (b2 - a2) + v * (c2 - a2)) := by grind
theorem aim_d3 : k * ((a3 + u * (b3 - a3) + v * (c3 - a3)) - o3) = k * ((a3 - o3) + u * (b3 - a3) + v * (c3 - a3)) := by grind
theorem aim_U : ((a2 - o2) * (k * ((a3 + u * (b3 - a3) + v * (c3 - a3)) - o3)) - (a3 - o3) * (k * ((a2 + u * (b2 - a2) + v * (c2 - a2)) - o2))) * (c1 - a1) + ((a3 - o3) * (k * ((a1 + u * (b1 - a1) + v * (c1 - a1)) - o1)) - (a1 - o1) * (k * ((a3 + u * (b3 - a3) + v * (c3 - a3)) - o3))) * (c2 - a2) + ((a1 - o1) * (k * ((a2 + u * (b2 - a2) + v * (c2 - a2)) - o2)) - (a2 - o2) * (k * ((a1 + u * (b1 - a1) + v * (c1 - a1)) - o1))) * (c3 - a3) = k * u * (((b2 - a2) * (c3 - a3) - (b3 - a3) * (c2 - a2)) * (a1 - o1) + ((b3 - a3) * (c1 - a1) - (b1 - a1) * (c3 - a3)) * (a2 - o2) + ((b1 - a1) * (c2 - a2) - (b2 - a2) * (c1 - a1)) * (a3 - o3)) := by
  rw [aim_d1 o1 a1 b1 c1 u v k, aim_d2 o2 a2 b2 c2 u v k, aim_d3 o3 a3 b3 c3 u v k]
  exact aim_u u v k (a1 - o1) (a2 - o2) (a3 - o3) (b1 - a1) (b2 - a2) (b3 - a3) (c1 - a1) (c2 - a2) (c3 - a3)
theorem aim_V : ((a2 - o2) * (k * ((a3 + u * (b3 - a3) + v * (c3 - a3)) - o3)) - (a3 - o3) * (k * ((a2 + u * (b2 - a2) + v * (c2 - a2)) - o2))) * (b1 - a1) + ((a3 - o3) * (k * ((a1 + u * (b1 - a1) + v * (c1 - a1)) - o1)) - (a1 - o1) * (k * ((a3 + u * (b3 - a3) + v * (c3 - a3)) - o3))) * (b2 - a2) + ((a1 - o1) * (k * ((a2 + u * (b2 - a2) + v * (c2 - a2)) - o2)) - (a2 - o2) * (k * ((a1 + u * (b1 - a1) + v * (c1 - a1)) - o1))) * (b3 - a3) = -(k * v * (((b2 - a2) * (c3 - a3) - (b3 - a3) * (c2 - a2)) * (a1 - o1) + ((b3 - a3) * (c1 - a1) - (b1 - a1) * (c3 - a3)) * (a2 - o2) + ((b1 - a1) * (c2 - a2) - (b2 - a2) * (c1 - a1)) * (a3 - o3))) := by
  rw [aim_d1 o1 a1 b1 c1 u v k, aim_d2 o2 a2 b2 c2 u v k, aim_d3 o3 a3 b3 c3 u v k]
  exact aim_v u v k (a1 - o1) (a2 - o2) (a3 - o3) (b1 - a1) (b2 - a2) (b3 - a3) (c1 - a1) (c2 - a2) (c3 - a3)
end
theorem aim_zero {X k : Rat} (h : X = 0) : X / (k * X) ≤ 0 := by
  rw [h, Rat.div_def, Rat.zero_mul]; exact Rat.le_refl
theorem aim_le {X k : Rat} (hX : ¬ X = 0) (h : k ≤ 0) : X / (k * X) ≤ 0 := by
  by_cases h0 : k = 0
  · subst h0; rw [Rat.zero_mul, div_z]; exact Rat.le_refl
  · have h1 : X / (k * X) = 1 / k := by grind
    rw [h1]
    have h2 : k < 0 := by grind
    have h3 : 0 < (-k)⁻¹ := Rat.inv_pos.2 (by grind)
    grind
theorem aim_pos {k : Rat} (h : ¬ k ≤ 0) : 0 < 1 / k := by
  have h3 : 0 < k⁻¹ := Rat.inv_pos.2 (by grind)
  grind
set_option maxHeartbeats 16000000 in
theorem taims_0 (o1 o2 o3 a1 a2 a3 b1 b2 b3 c1 c2 c3 u v k X : Rat) (K : Nat) (K1 : 1 ≤ K) (hK : K ≤ 1048576) (hS : ((b2 - a2) * (c3 - a3) - (b3 - a3) * (c2 - a2)) * (a1 - o1) + ((b3 - a3) * (c1 - a1) - (b1 - a1) * (c3 - a3)) * (a2 - o2) + ((b1 - a1) * (c2 - a2) - (b2 - a2) * (c1 - a1)) * (a3 - o3) = X) (hX : X = 0) (q1 : ¬ u ≥ 0) : At Try.prog 3 [mkR [o1, o2, o3] K, mkR [a1, a2, a3, b1, b2, b3, c1, c2, c3] K, mkR [u, v, k] K] ⟨.inl ⟨some (.inl (.bool true))⟩⟩ := by
  have i0 : ((0 : Int) : Rat) / ((1 : Int) : Rat) = 0 := by decide +kernel
  have i1 : ((1 : Int) : Rat) / ((1 : Int) : Rat) = 1 := by decide +kernel
  have i2 : ((-2 : Int) : Rat) / ((1 : Int) : Rat) = -2 := by decide +kernel
  have i3 : ((3 : Int) : Rat) / ((1 : Int) : Rat) = 3 := by decide +kernel
  have im : ((-1 : Int) : Rat) / ((1 : Int) : Rat) = -1 := by decide +kernel
  have iq : ((1 : Int) : Rat) / ((4 : Int) : Rat) = 1 / 4 := by decide +kernel
  have hE := aim_E o1 o2 o3 a1 a2 a3 b1 b2 b3 c1 c2 c3 u v
  have hD := aim_D o1 o2 o3 a1 a2 a3 b1 b2 b3 c1 c2 c3 u v k
  have hU := aim_U o1 o2 o3 a1 a2 a3 b1 b2 b3 c1 c2 c3 u v k
  have hV := aim_V o1 o2 o3 a1 a2 a3 b1 b2 b3 c1 c2 c3 u v k
  rw [hS] at hE hD hU hV
  have hk : htOk (X / (k * X)) (k * u * X / (k * X)) (-(k * v * X) / -(k * X)) = false := no_s (aim_zero hX)
  refine At.ok (fuel := 100) (hs := [false, false, true, false]) S19_ok Try.func3 (by kernel_rfl) ?_
  simp (maxSteps := 10000000) only [Try.f3, go_sem, hS, hE, hD, hU, hV, hk, hX, q1, decide_eq_true_eq, decide_eq_false_iff_not, ne_eq, not_true_eq_false, not_false_eq_true, Decidable.not_not, beq_iff_eq, beq_eq_false_iff_ne, bne_eq_false_iff_eq, bne_iff_ne, qsgn_zero, qsgn_le, qsgn_lt, qsgn_gt, qsgn_ge, eq_self, decide_true, decide_false, and_self, i0, i1, i2, i3, im, iq, Nat.reduceAdd, Nat.reduceSub, Nat.reduceMul, Int.reduceAdd, Int.reduceSub, Int.reduceToNat]
  and_intros
  all_goals first | with_reducible rfl | assumption | omega | decide | (grind)
set_option maxHeartbeats 16000000 in
theorem taims_1 (o1 o2 o3 a1 a2 a3 b1 b2 b3 c1 c2 c3 u v k X : Rat) (K : Nat) (K1 : 1 ≤ K) (hK : K ≤ 1048576) (hS : ((b2 - a2) * (c3 - a3) - (b3 - a3) * (c2 - a2)) * (a1 - o1) + ((b3 - a3) * (c1 - a1) - (b1 - a1) * (c3 - a3)) * (a2 - o2) + ((b1 - a1) * (c2 - a2) - (b2 - a2) * (c1 - a1)) * (a3 - o3) = X) (hX : X = 0) (q1 : u ≥ 0) (q2 : ¬ v ≥ 0) : At Try.prog 3 [mkR [o1, o2, o3] K, mkR [a1, a2, a3, b1, b2, b3, c1, c2, c3] K, mkR [u, v, k] K] ⟨.inl ⟨some (.inl (.bool true))⟩⟩ := by
  have i0 : ((0 : Int) : Rat) / ((1 : Int) : Rat) = 0 := by decide +kernel
  have i1 : ((1 : Int) : Rat) / ((1 : Int) : Rat) = 1 := by decide +kernel
  have i2 : ((-2 : Int) : Rat) / ((1 : Int) : Rat) = -2 := by decide +kernel
  have i3 : ((3 : Int) : Rat) / ((1 : Int) : Rat) = 3 := by decide +kernel
  have im : ((-1 : Int) : Rat) / ((1 : Int) : Rat) = -1 := by decide +kernel
  have iq : ((1 : Int) : Rat) / ((4 : Int) : Rat) = 1 / 4 := by decide +kernel
  have hE := aim_E o1 o2 o3 a1 a2 a3 b1 b2 b3 c1 c2 c3 u v
  have hD := aim_D o1 o2 o3 a1 a2 a3 b1 b2 b3 c1 c2 c3 u v k
  have hU := aim_U o1 o2 o3 a1 a2 a3 b1 b2 b3 c1 c2 c3 u v k
  have hV := aim_V o1 o2 o3 a1 a2 a3 b1 b2 b3 c1 c2 c3 u v k
  rw [hS] at hE hD hU hV
  have hk : htOk (X / (k * X)) (k * u * X / (k * X)) (-(k * v * X) / -(k * X)) = false := no_s (aim_zero hX)
  refine At.ok (fuel := 100) (hs := [true, false, false, true, false]) S19_ok Try.func3 (by kernel_rfl) ?_
  simp (maxSteps := 10000000) only [Try.f3, go_sem, hS, hE, hD, hU, hV, hk, hX, q1, q2, decide_eq_true_eq, decide_eq_false_iff_not, ne_eq, not_true_eq_false, not_false_eq_true, Decidable.not_not, beq_iff_eq, beq_eq_false_iff_ne, bne_eq_false_iff_eq, bne_iff_ne, qsgn_zero, qsgn_le, qsgn_lt, qsgn_gt, qsgn_ge, eq_self, decide_true, decide_false, and_self, i0, i1, i2, i3, im, iq, Nat.reduceAdd, Nat.reduceSub, Nat.reduceMul, Int.reduceAdd, Int.reduceSub, Int.reduceToNat]
  and_intros
  all_goals first | with_reducible rfl | assumption | omega | decide | (grind)
set_option maxHeartbeats 16000000 in
theorem taims_2 (o1 o2 o3 a1 a2 a3 b1 b2 b3 c1 c2 c3 u v k X : Rat) (K : Nat) (K1 : 1 ≤ K) (hK : K ≤ 1048576) (hS : ((b2 - a2) * (c3 - a3) - (b3 - a3) * (c2 - a2)) * (a1 - o1) + ((b3 - a3) * (c1 - a1) - (b1 - a1) * (c3 - a3)) * (a2 - o2) + ((b1 - a1) * (c2 - a2) - (b2 - a2) * (c1 - a1)) * (a3 - o3) = X) (hX : X = 0) (q1 : u ≥ 0) (q2 : v ≥ 0) (q3 : ¬ u + v - 1 ≤ 0) : At Try.prog 3 [mkR [o1, o2, o3] K, mkR [a1, a2, a3, b1, b2, b3, c1, c2, c3] K, mkR [u, v, k] K] ⟨.inl ⟨some (.inl (.bool true))⟩⟩ := by
  have i0 : ((0 : Int) : Rat) / ((1 : Int) : Rat) = 0 := by decide +kernel
  have i1 : ((1 : Int) : Rat) / ((1 : Int) : Rat) = 1 := by decide +kernel
  have i2 : ((-2 : Int) : Rat) / ((1 : Int) : Rat) = -2 := by decide +kernel
  have i3 : ((3 : Int) : Rat) / ((1 : Int) : Rat) = 3 := by decide +kernel
  have im : ((-1 : Int) : Rat) / ((1 : Int) : Rat) = -1 := by decide +kernel
  have iq : ((1 : Int) : Rat) / ((4 : Int) : Rat) = 1 / 4 := by decide +kernel
  have hE := aim_E o1 o2 o3 a1 a2 a3 b1 b2 b3 c1 c2 c3 u v
  have hD := aim_D o1 o2 o3 a1 a2 a3 b1 b2 b3 c1 c2 c3 u v k
  have hU := aim_U o1 o2 o3 a1 a2 a3 b1 b2 b3 c1 c2 c3 u v k
  have hV := aim_V o1 o2 o3 a1 a2 a3 b1 b2 b3 c1 c2 c3 u v k
  rw [hS] at hE hD hU hV
  have hk : htOk (X / (k * X)) (k * u * X / (k * X)) (-(k * v * X) / -(k * X)) = false := no_s (aim_zero hX)
  refine At.ok (fuel := 100) (hs := [true, true, false, false, true, false]) S19_ok Try.func3 (by kernel_rfl) ?_
  simp (maxSteps := 10000000) only [Try.f3, go_sem, hS, hE, hD, hU, hV, hk, hX, q1, q2, q3, decide_eq_true_eq, decide_eq_false_iff_not, ne_eq, not_true_eq_false, not_false_eq_true, Decidable.not_not, beq_iff_eq, beq_eq_false_iff_ne, bne_eq_false_iff_eq, bne_iff_ne, qsgn_zero, qsgn_le, qsgn_lt, qsgn_gt, qsgn_ge, eq_self, decide_true, decide_false, and_self, i0, i1, i2, i3, im, iq, Nat.reduceAdd, Nat.reduceSub, Nat.reduceMul, Int.reduceAdd, Int.reduceSub, Int.reduceToNat]
  and_intros
  all_goals first | with_reducible rfl | assumption | omega | decide | (grind)
set_option maxHeartbeats 16000000 in
theorem taims_3 (o1 o2 o3 a1 a2 a3 b1 b2 b3 c1 c2 c3 u v k X : Rat) (K : Nat) (K1 : 1 ≤ K) (hK : K ≤ 1048576) (hS : ((b2 - a2) * (c3 - a3) - (b3 - a3) * (c2 - a2)) * (a1 - o1) + ((b3 - a3) * (c1 - a1) - (b1 - a1) * (c3 - a3)) * (a2 - o2) + ((b1 - a1) * (c2 - a2) - (b2 - a2) * (c1 - a1)) * (a3 - o3) = X) (hX : X = 0) (q1 : u ≥ 0) (q2 : v ≥ 0) (q3 : u + v - 1 ≤ 0) : At Try.prog 3 [mkR [o1, o2, o3] K, mkR [a1, a2, a3, b1, b2, b3, c1, c2, c3] K, mkR [u, v, k] K] ⟨.inl ⟨some (.inl (.bool true))⟩⟩ := by
  have i0 : ((0 : Int) : Rat) / ((1 : Int) : Rat) = 0 := by decide +kernel
  have i1 : ((1 : Int) : Rat) / ((1 : Int) : Rat) = 1 := by decide +kernel
  have i2 : ((-2 : Int) : Rat) / ((1 : Int) : Rat) = -2 := by decide +kernel
  have i3 : ((3 : Int) : Rat) / ((1 : Int) : Rat) = 3 := by decide +kernel
  have im : ((-1 : Int) : Rat) / ((1 : Int) : Rat) = -1 := by decide +kernel
  have iq : ((1 : Int) : Rat) / ((4 : Int) : Rat) = 1 / 4 := by decide +kernel
  have hE := aim_E o1 o2 o3 a1 a2 a3 b1 b2 b3 c1 c2 c3 u v
  have hD := aim_D o1 o2 o3 a1 a2 a3 b1 b2 b3 c1 c2 c3 u v k
  have hU := aim_U o1 o2 o3 a1 a2 a3 b1 b2 b3 c1 c2 c3 u v k
  have hV := aim_V o1 o2 o3 a1 a2 a3 b1 b2 b3 c1 c2 c3 u v k
  rw [hS] at hE hD hU hV
  have hk : htOk (X / (k * X)) (k * u * X / (k * X)) (-(k * v * X) / -(k * X)) = false := no_s (aim_zero hX)
  refine At.ok (fuel := 100) (hs := [true, true, true, false, true, false]) S19_ok Try.func3 (by kernel_rfl) ?_
  simp (maxSteps := 10000000) only [Try.f3, go_sem, hS, hE, hD, hU, hV, hk, hX, q1, q2, q3, decide_eq_true_eq, decide_eq_false_iff_not, ne_eq, not_true_eq_false, not_false_eq_true, Decidable.not_not, beq_iff_eq, beq_eq_false_iff_ne, bne_eq_false_iff_eq, bne_iff_ne, qsgn_zero, qsgn_le, qsgn_lt, qsgn_gt, qsgn_ge, eq_self, decide_true, decide_false, and_self, i0, i1, i2, i3, im, iq, Nat.reduceAdd, Nat.reduceSub, Nat.reduceMul, Int.reduceAdd, Int.reduceSub, Int.reduceToNat]
  and_intros
  all_goals first | with_reducible rfl | assumption | omega | decide | (grind)
set_option maxHeartbeats 16000000 in
theorem taims_4 (o1 o2 o3 a1 a2 a3 b1 b2 b3 c1 c2 c3 u v k X : Rat) (K : Nat) (K1 : 1 ≤ K) (hK : K ≤ 1048576) (hS : ((b2 - a2) * (c3 - a3) - (b3 - a3) * (c2 - a2)) * (a1 - o1) + ((b3 - a3) * (c1 - a1) - (b1 - a1) * (c3 - a3)) * (a2 - o2) + ((b1 - a1) * (c2 - a2) - (b2 - a2) * (c1 - a1)) * (a3 - o3) = X) (hX : ¬ X = 0) (hl : k ≤ 0) (q1 : ¬ u ≥ 0) : At Try.prog 3 [mkR [o1, o2, o3] K, mkR [a1, a2, a3, b1, b2, b3, c1, c2, c3] K, mkR [u, v, k] K] ⟨.inl ⟨some (.inl (.bool true))⟩⟩ := by
  have i0 : ((0 : Int) : Rat) / ((1 : Int) : Rat) = 0 := by decide +kernel
  have i1 : ((1 : Int) : Rat) / ((1 : Int) : Rat) = 1 := by decide +kernel
  have i2 : ((-2 : Int) : Rat) / ((1 : Int) : Rat) = -2 := by decide +kernel
  have i3 : ((3 : Int) : Rat) / ((1 : Int) : Rat) = 3 := by decide +kernel
  have im : ((-1 : Int) : Rat) / ((1 : Int) : Rat) = -1 := by decide +kernel
  have iq : ((1 : Int) : Rat) / ((4 : Int) : Rat) = 1 / 4 := by decide +kernel
  have hE := aim_E o1 o2 o3 a1 a2 a3 b1 b2 b3 c1 c2 c3 u v
  have hD := aim_D o1 o2 o3 a1 a2 a3 b1 b2 b3 c1 c2 c3 u v k
  have hU := aim_U o1 o2 o3 a1 a2 a3 b1 b2 b3 c1 c2 c3 u v k
  have hV := aim_V o1 o2 o3 a1 a2 a3 b1 b2 b3 c1 c2 c3 u v k
  rw [hS] at hE hD hU hV
  have hk : htOk (X / (k * X)) (k * u * X / (k * X)) (-(k * v * X) / -(k * X)) = false := no_s (aim_le hX hl)
  refine At.ok (fuel := 100) (hs := [false, false, true, true, true]) S19_ok Try.func3 (by kernel_rfl) ?_
  simp (maxSteps := 10000000) only [Try.f3, go_sem, hS, hE, hD, hU, hV, hk, hX, hl, q1, decide_eq_true_eq, decide_eq_false_iff_not, ne_eq, not_true_eq_false, not_false_eq_true, Decidable.not_not, beq_iff_eq, beq_eq_false_iff_ne, bne_eq_false_iff_eq, bne_iff_ne, qsgn_zero, qsgn_le, qsgn_lt, qsgn_gt, qsgn_ge, eq_self, decide_true, decide_false, and_self, i0, i1, i2, i3, im, iq, Nat.reduceAdd, Nat.reduceSub, Nat.reduceMul, Int.reduceAdd, Int.reduceSub, Int.reduceToNat]
  and_intros
  all_goals first | with_reducible rfl | assumption | omega | decide | (grind)
set_option maxHeartbeats 16000000 in
theorem taims_5 (o1 o2 o3 a1 a2 a3 b1 b2 b3 c1 c2 c3 u v k X : Rat) (K : Nat) (K1 : 1 ≤ K) (hK : K ≤ 1048576) (hS : ((b2 - a2) * (c3 - a3) - (b3 - a3) * (c2 - a2)) * (a1 - o1) + ((b3 - a3) * (c1 - a1) - (b1 - a1) * (c3 - a3)) * (a2 - o2) + ((b1 - a1) * (c2 - a2) - (b2 - a2) * (c1 - a1)) * (a3 - o3) = X) (hX : ¬ X = 0) (hl : k ≤ 0) (q1 : u ≥ 0) (q2 : ¬ v ≥ 0) : At Try.prog 3 [mkR [o1, o2, o3] K, mkR [a1, a2, a3, b1, b2, b3, c1, c2, c3] K, mkR [u, v, k] K] ⟨.inl ⟨some (.inl (.bool true))⟩⟩ := by
  have i0 : ((0 : Int) : Rat) / ((1 : Int) : Rat) = 0 := by decide +kernel
  have i1 : ((1 : Int) : Rat) / ((1 : Int) : Rat) = 1 := by decide +kernel
  have i2 : ((-2 : Int) : Rat) / ((1 : Int) : Rat) = -2 := by decide +kernel
  have i3 : ((3 : Int) : Rat) / ((1 : Int) : Rat) = 3 := by decide +kernel
  have im : ((-1 : Int) : Rat) / ((1 : Int) : Rat) = -1 := by decide +kernel
  have iq : ((1 : Int) : Rat) / ((4 : Int) : Rat) = 1 / 4 := by decide +kernel
  have hE := aim_E o1 o2 o3 a1 a2 a3 b1 b2 b3 c1 c2 c3 u v
  have hD := aim_D o1 o2 o3 a1 a2 a3 b1 b2 b3 c1 c2 c3 u v k
  have hU := aim_U o1 o2 o3 a1 a2 a3 b1 b2 b3 c1 c2 c3 u v k
  have hV := aim_V o1 o2 o3 a1 a2 a3 b1 b2 b3 c1 c2 c3 u v k
  rw [hS] at hE hD hU hV
  have hk : htOk (X / (k * X)) (k * u * X / (k * X)) (-(k * v * X) / -(k * X)) = false := no_s (aim_le hX hl)
  refine At.ok (fuel := 100) (hs := [true, false, false, true, true, true]) S19_ok Try.func3 (by kernel_rfl) ?_
  simp (maxSteps := 10000000) only [Try.f3, go_sem, hS, hE, hD, hU, hV, hk, hX, hl, q1, q2, decide_eq_true_eq, decide_eq_false_iff_not, ne_eq, not_true_eq_false, not_false_eq_true, Decidable.not_not, beq_iff_eq, beq_eq_false_iff_ne, bne_eq_false_iff_eq, bne_iff_ne, qsgn_zero, qsgn_le, qsgn_lt, qsgn_gt, qsgn_ge, eq_self, decide_true, decide_false, and_self, i0, i1, i2, i3, im, iq, Nat.reduceAdd, Nat.reduceSub, Nat.reduceMul, Int.reduceAdd, Int.reduceSub, Int.reduceToNat]
  and_intros
  all_goals first | with_reducible rfl | assumption | omega | decide | (grind)
set_option maxHeartbeats 16000000 in
theorem taims_6 (o1 o2 o3 a1 a2 a3 b1 b2 b3 c1 c2 c3 u v k X : Rat) (K : Nat) (K1 : 1 ≤ K) (hK : K ≤ 1048576) (hS : ((b2 - a2) * (c3 - a3) - (b3 - a3) * (c2 - a2)) * (a1 - o1) + ((b3 - a3) * (c1 - a1) - (b1 - a1) * (c3 - a3)) * (a2 - o2) + ((b1 - a1) * (c2 - a2) - (b2 - a2) * (c1 - a1)) * (a3 - o3) = X) (hX : ¬ X = 0) (hl : k ≤ 0) (q1 : u ≥ 0) (q2 : v ≥ 0) (q3 : ¬ u + v - 1 ≤ 0) : At Try.prog 3 [mkR [o1, o2, o3] K, mkR [a1, a2, a3, b1, b2, b3, c1, c2, c3] K, mkR [u, v, k] K] ⟨.inl ⟨some (.inl (.bool true))⟩⟩ := by
  have i0 : ((0 : Int) : Rat) / ((1 : Int) : Rat) = 0 := by decide +kernel
  have i1 : ((1 : Int) : Rat) / ((1 : Int) : Rat) = 1 := by decide +kernel
  have i2 : ((-2 : Int) : Rat) / ((1 : Int) : Rat) = -2 := by decide +kernel
  have i3 : ((3 : Int) : Rat) / ((1 : Int) : Rat) = 3 := by decide +kernel
  have im : ((-1 : Int) : Rat) / ((1 : Int) : Rat) = -1 := by decide +kernel
  have iq : ((1 : Int) : Rat) / ((4 : Int) : Rat) = 1 / 4 := by decide +kernel
  have hE := aim_E o1 o2 o3 a1 a2 a3 b1 b2 b3 c1 c2 c3 u v
  have hD := aim_D o1 o2 o3 a1 a2 a3 b1 b2 b3 c1 c2 c3 u v k
  have hU := aim_U o1 o2 o3 a1 a2 a3 b1 b2 b3 c1 c2 c3 u v k
  have hV := aim_V o1 o2 o3 a1 a2 a3 b1 b2 b3 c1 c2 c3 u v k
  rw [hS] at hE hD hU hV
  have hk : htOk (X / (k * X)) (k * u * X / (k * X)) (-(k * v * X) / -(k * X)) = false := no_s (aim_le hX hl)
  refine At.ok (fuel := 100) (hs := [true, true, false, false, true, true, true]) S19_ok Try.func3 (by kernel_rfl) ?_
  simp (maxSteps := 10000000) only [Try.f3, go_sem, hS, hE, hD, hU, hV, hk, hX, hl, q1, q2, q3, decide_eq_true_eq, decide_eq_false_iff_not, ne_eq, not_true_eq_false, not_false_eq_true, Decidable.not_not, beq_iff_eq, beq_eq_false_iff_ne, bne_eq_false_iff_eq, bne_iff_ne, qsgn_zero, qsgn_le, qsgn_lt, qsgn_gt, qsgn_ge, eq_self, decide_true, decide_false, and_self, i0, i1, i2, i3, im, iq, Nat.reduceAdd, Nat.reduceSub, Nat.reduceMul, Int.reduceAdd, Int.reduceSub, Int.reduceToNat]
  and_intros
  all_goals first | with_reducible rfl | assumption | omega | decide | (grind)
set_option maxHeartbeats 16000000 in
theorem taims_7 (o1 o2 o3 a1 a2 a3 b1 b2 b3 c1 c2 c3 u v k X : Rat) (K : Nat) (K1 : 1 ≤ K) (hK : K ≤ 1048576) (hS : ((b2 - a2) * (c3 - a3) - (b3 - a3) * (c2 - a2)) * (a1 - o1) + ((b3 - a3) * (c1 - a1) - (b1 - a1) * (c3 - a3)) * (a2 - o2) + ((b1 - a1) * (c2 - a2) - (b2 - a2) * (c1 - a1)) * (a3 - o3) = X) (hX : ¬ X = 0) (hl : k ≤ 0) (q1 : u ≥ 0) (q2 : v ≥ 0) (q3 : u + v - 1 ≤ 0) : At Try.prog 3 [mkR [o1, o2, o3] K, mkR [a1, a2, a3, b1, b2, b3, c1, c2, c3] K, mkR [u, v, k] K] ⟨.inl ⟨some (.inl (.bool true))⟩⟩ := by
  have i0 : ((0 : Int) : Rat) / ((1 : Int) : Rat) = 0 := by decide +kernel
  have i1 : ((1 : Int) : Rat) / ((1 : Int) : Rat) = 1 := by decide +kernel
  have i2 : ((-2 : Int) : Rat) / ((1 : Int) : Rat) = -2 := by decide +kernel
  have i3 : ((3 : Int) : Rat) / ((1 : Int) : Rat) = 3 := by decide +kernel
  have im : ((-1 : Int) : Rat) / ((1 : Int) : Rat) = -1 := by decide +kernel
  have iq : ((1 : Int) : Rat) / ((4 : Int) : Rat) = 1 / 4 := by decide +kernel
  have hE := aim_E o1 o2 o3 a1 a2 a3 b1 b2 b3 c1 c2 c3 u v
  have hD := aim_D o1 o2 o3 a1 a2 a3 b1 b2 b3 c1 c2 c3 u v k
  have hU := aim_U o1 o2 o3 a1 a2 a3 b1 b2 b3 c1 c2 c3 u v k
  have hV := aim_V o1 o2 o3 a1 a2 a3 b1 b2 b3 c1 c2 c3 u v k
  rw [hS] at hE hD hU hV
  have hk : htOk (X / (k * X)) (k * u * X / (k * X)) (-(k * v * X) / -(k * X)) = false := no_s (aim_le hX hl)
  refine At.ok (fuel := 100) (hs := [true, true, true, false, true, true, true]) S19_ok Try.func3 (by kernel_rfl) ?_
  simp (maxSteps := 10000000) only [Try.f3, go_sem, hS, hE, hD, hU, hV, hk, hX, hl, q1, q2, q3, decide_eq_true_eq, decide_eq_false_iff_not, ne_eq, not_true_eq_false, not_false_eq_true, Decidable.not_not, beq_iff_eq, beq_eq_false_iff_ne, bne_eq_false_iff_eq, bne_iff_ne, qsgn_zero, qsgn_le, qsgn_lt, qsgn_gt, qsgn_ge, eq_self, decide_true, decide_false, and_self, i0, i1, i2, i3, im, iq, Nat.reduceAdd, Nat.reduceSub, Nat.reduceMul, Int.reduceAdd, Int.reduceSub, Int.reduceToNat]
  and_intros
  all_goals first | with_reducible rfl | assumption | omega | decide | (grind)
set_option maxHeartbeats 16000000 in
theorem taims_8 (o1 o2 o3 a1 a2 a3 b1 b2 b3 c1 c2 c3 u v k X : Rat) (K : Nat) (K1 : 1 ≤ K) (hK : K ≤ 1048576) (hS : ((b2 - a2) * (c3 - a3) - (b3 - a3) * (c2 - a2)) * (a1 - o1) + ((b3 - a3) * (c1 - a1) - (b1 - a1) * (c3 - a3)) * (a2 - o2) + ((b1 - a1) * (c2 - a2) - (b2 - a2) * (c1 - a1)) * (a3 - o3) = X) (hX : ¬ X = 0) (hl : ¬ k ≤ 0) (q1 : ¬ u ≥ 0) : At Try.prog 3 [mkR [o1, o2, o3] K, mkR [a1, a2, a3, b1, b2, b3, c1, c2, c3] K, mkR [u, v, k] K] ⟨.inl ⟨some (.inl (.bool true))⟩⟩ := by
  have i0 : ((0 : Int) : Rat) / ((1 : Int) : Rat) = 0 := by decide +kernel
  have i1 : ((1 : Int) : Rat) / ((1 : Int) : Rat) = 1 := by decide +kernel
  have i2 : ((-2 : Int) : Rat) / ((1 : Int) : Rat) = -2 := by decide +kernel
  have i3 : ((3 : Int) : Rat) / ((1 : Int) : Rat) = 3 := by decide +kernel
  have im : ((-1 : Int) : Rat) / ((1 : Int) : Rat) = -1 := by decide +kernel
  have iq : ((1 : Int) : Rat) / ((4 : Int) : Rat) = 1 / 4 := by decide +kernel
  have hE := aim_E o1 o2 o3 a1 a2 a3 b1 b2 b3 c1 c2 c3 u v
  have hD := aim_D o1 o2 o3 a1 a2 a3 b1 b2 b3 c1 c2 c3 u v k
  have hU := aim_U o1 o2 o3 a1 a2 a3 b1 b2 b3 c1 c2 c3 u v k
  have hV := aim_V o1 o2 o3 a1 a2 a3 b1 b2 b3 c1 c2 c3 u v k
  rw [hS] at hE hD hU hV
  have g0 : ¬ k = 0 := fun h => hl (by rw [h]; exact Rat.le_refl)
  have g1 : X / (k * X) = 1 / k := by clear hS hE hD hU hV; grind
  have g2 : k * u * X / (k * X) = u := by clear hS hE hD hU hV; grind
  have g3 : -(k * v * X) / -(k * X) = v := by clear hS hE hD hU hV; grind
  have g4 : 0 < 1 / k := aim_pos hl
  have hk : htOk (1 / k) u v = false := no_u (by clear hS hE hD hU hV; grind)
  have y1 := ht_no hk
  refine At.ok (fuel := 100) (hs := [false, false, true, true, false, true]) S19_ok Try.func3 (by kernel_rfl) ?_
  simp (maxSteps := 10000000) only [Try.f3, go_sem, hS, hE, hD, hU, hV, g1, g2, g3, g0, hk, y1, hX, hl, q1, decide_eq_true_eq, decide_eq_false_iff_not, ne_eq, not_true_eq_false, not_false_eq_true, Decidable.not_not, beq_iff_eq, beq_eq_false_iff_ne, bne_eq_false_iff_eq, bne_iff_ne, qsgn_zero, qsgn_le, qsgn_lt, qsgn_gt, qsgn_ge, eq_self, decide_true, decide_false, and_self, i0, i1, i2, i3, im, iq, Nat.reduceAdd, Nat.reduceSub, Nat.reduceMul, Int.reduceAdd, Int.reduceSub, Int.reduceToNat]
  and_intros
  all_goals first | with_reducible rfl | assumption | omega | decide | (grind)
set_option maxHeartbeats 16000000 in
theorem taims_9 (o1 o2 o3 a1 a2 a3 b1 b2 b3 c1 c2 c3 u v k X : Rat) (K : Nat) (K1 : 1 ≤ K) (hK : K ≤ 1048576) (hS : ((b2 - a2) * (c3 - a3) - (b3 - a3) * (c2 - a2)) * (a1 - o1) + ((b3 - a3) * (c1 - a1) - (b1 - a1) * (c3 - a3)) * (a2 - o2) + ((b1 - a1) * (c2 - a2) - (b2 - a2) * (c1 - a1)) * (a3 - o3) = X) (hX : ¬ X = 0) (hl : ¬ k ≤ 0) (q1 : u ≥ 0) (q2 : ¬ v ≥ 0) : At Try.prog 3 [mkR [o1, o2, o3] K, mkR [a1, a2, a3, b1, b2, b3, c1, c2, c3] K, mkR [u, v, k] K] ⟨.inl ⟨some (.inl (.bool true))⟩⟩ := by
  have i0 : ((0 : Int) : Rat) / ((1 : Int) : Rat) = 0 := by decide +kernel
  have i1 : ((1 : Int) : Rat) / ((1 : Int) : Rat) = 1 := by decide +kernel
  have i2 : ((-2 : Int) : Rat) / ((1 : Int) : Rat) = -2 := by decide +kernel
  have i3 : ((3 : Int) : Rat) / ((1 : Int) : Rat) = 3 := by decide +kernel
  have im : ((-1 : Int) : Rat) / ((1 : Int) : Rat) = -1 := by decide +kernel
  have iq : ((1 : Int) : Rat) / ((4 : Int) : Rat) = 1 / 4 := by decide +kernel
  have hE := aim_E o1 o2 o3 a1 a2 a3 b1 b2 b3 c1 c2 c3 u v
  have hD := aim_D o1 o2 o3 a1 a2 a3 b1 b2 b3 c1 c2 c3 u v k
  have hU := aim_U o1 o2 o3 a1 a2 a3 b1 b2 b3 c1 c2 c3 u v k
  have hV := aim_V o1 o2 o3 a1 a2 a3 b1 b2 b3 c1 c2 c3 u v k
  rw [hS] at hE hD hU hV
  have g0 : ¬ k = 0 := fun h => hl (by rw [h]; exact Rat.le_refl)
  have g1 : X / (k * X) = 1 / k := by clear hS hE hD hU hV; grind
  have g2 : k * u * X / (k * X) = u := by clear hS hE hD hU hV; grind
  have g3 : -(k * v * X) / -(k * X) = v := by clear hS hE hD hU hV; grind
  have g4 : 0 < 1 / k := aim_pos hl
  have hk : htOk (1 / k) u v = false := no_v (by clear hS hE hD hU hV; grind)
  have y1 := ht_no hk
  refine At.ok (fuel := 100) (hs := [true, false, false, true, true, false, true]) S19_ok Try.func3 (by kernel_rfl) ?_
  simp (maxSteps := 10000000) only [Try.f3, go_sem, hS, hE, hD, hU, hV, g1, g2, g3, g0, hk, y1, hX, hl, q1, q2, decide_eq_true_eq, decide_eq_false_iff_not, ne_eq, not_true_eq_false, not_false_eq_true, Decidable.not_not, beq_iff_eq, beq_eq_false_iff_ne, bne_eq_false_iff_eq, bne_iff_ne, qsgn_zero, qsgn_le, qsgn_lt, qsgn_gt, qsgn_ge, eq_self, decide_true, decide_false, and_self, i0, i1, i2, i3, im, iq, Nat.reduceAdd, Nat.reduceSub, Nat.reduceMul, Int.reduceAdd, Int.reduceSub, Int.reduceToNat]
  and_intros
  all_goals first | with_reducible rfl | assumption | omega | decide | (grind)
set_option maxHeartbeats 16000000 in
theorem taims_10 (o1 o2 o3 a1 a2 a3 b1 b2 b3 c1 c2 c3 u v k X : Rat) (K : Nat) (K1 : 1 ≤ K) (hK : K ≤ 1048576) (hS : ((b2 - a2) * (c3 - a3) - (b3 - a3) * (c2 - a2)) * (a1 - o1) + ((b3 - a3) * (c1 - a1) - (b1 - a1) * (c3 - a3)) * (a2 - o2) + ((b1 - a1) * (c2 - a2) - (b2 - a2) * (c1 - a1)) * (a3 - o3) = X) (hX : ¬ X = 0) (hl : ¬ k ≤ 0) (q1 : u ≥ 0) (q2 : v ≥ 0) (q3 : ¬ u + v - 1 ≤ 0) : At Try.prog 3 [mkR [o1, o2, o3] K, mkR [a1, a2, a3, b1, b2, b3, c1, c2, c3] K, mkR [u, v, k] K] ⟨.inl ⟨some (.inl (.bool true))⟩⟩ := by
  have i0 : ((0 : Int) : Rat) / ((1 : Int) : Rat) = 0 := by decide +kernel
  have i1 : ((1 : Int) : Rat) / ((1 : Int) : Rat) = 1 := by decide +kernel
  have i2 : ((-2 : Int) : Rat) / ((1 : Int) : Rat) = -2 := by decide +kernel
  have i3 : ((3 : Int) : Rat) / ((1 : Int) : Rat) = 3 := by decide +kernel
  have im : ((-1 : Int) : Rat) / ((1 : Int) : Rat) = -1 := by decide +kernel
  have iq : ((1 : Int) : Rat) / ((4 : Int) : Rat) = 1 / 4 := by decide +kernel
  have hE := aim_E o1 o2 o3 a1 a2 a3 b1 b2 b3 c1 c2 c3 u v
  have hD := aim_D o1 o2 o3 a1 a2 a3 b1 b2 b3 c1 c2 c3 u v k
  have hU := aim_U o1 o2 o3 a1 a2 a3 b1 b2 b3 c1 c2 c3 u v k
  have hV := aim_V o1 o2 o3 a1 a2 a3 b1 b2 b3 c1 c2 c3 u v k
  rw [hS] at hE hD hU hV
  have g0 : ¬ k = 0 := fun h => hl (by rw [h]; exact Rat.le_refl)
  have g1 : X / (k * X) = 1 / k := by clear hS hE hD hU hV; grind
  have g2 : k * u * X / (k * X) = u := by clear hS hE hD hU hV; grind
  have g3 : -(k * v * X) / -(k * X) = v := by clear hS hE hD hU hV; grind
  have g4 : 0 < 1 / k := aim_pos hl
  have hk : htOk (1 / k) u v = false := no_w (by clear hS hE hD hU hV; grind)
  have y1 := ht_no hk
  refine At.ok (fuel := 100) (hs := [true, true, false, false, true, true, false, true]) S19_ok Try.func3 (by kernel_rfl) ?_
  simp (maxSteps := 10000000) only [Try.f3, go_sem, hS, hE, hD, hU, hV, g1, g2, g3, g0, hk, y1, hX, hl, q1, q2, q3, decide_eq_true_eq, decide_eq_false_iff_not, ne_eq, not_true_eq_false, not_false_eq_true, Decidable.not_not, beq_iff_eq, beq_eq_false_iff_ne, bne_eq_false_iff_eq, bne_iff_ne, qsgn_zero, qsgn_le, qsgn_lt, qsgn_gt, qsgn_ge, eq_self, decide_true, decide_false, and_self, i0, i1, i2, i3, im, iq, Nat.reduceAdd, Nat.reduceSub, Nat.reduceMul, Int.reduceAdd, Int.reduceSub, Int.reduceToNat]
  and_intros
  all_goals first | with_reducible rfl | assumption | omega | decide | (grind)
set_option maxHeartbeats 16000000 in
theorem taims_11 (o1 o2 o3 a1 a2 a3 b1 b2 b3 c1 c2 c3 u v k X : Rat) (K : Nat) (K1 : 1 ≤ K) (hK : K ≤ 1048576) (hS : ((b2 - a2) * (c3 - a3) - (b3 - a3) * (c2 - a2)) * (a1 - o1) + ((b3 - a3) * (c1 - a1) - (b1 - a1) * (c3 - a3)) * (a2 - o2) + ((b1 - a1) * (c2 - a2) - (b2 - a2) * (c1 - a1)) * (a3 - o3) = X) (hX : ¬ X = 0) (hl : ¬ k ≤ 0) (q1 : u ≥ 0) (q2 : v ≥ 0) (q3 : u + v - 1 ≤ 0) : At Try.prog 3 [mkR [o1, o2, o3] K, mkR [a1, a2, a3, b1, b2, b3, c1, c2, c3] K, mkR [u, v, k] K] ⟨.inl ⟨some (.inl (.bool true))⟩⟩ := by
  have i0 : ((0 : Int) : Rat) / ((1 : Int) : Rat) = 0 := by decide +kernel
  have i1 : ((1 : Int) : Rat) / ((1 : Int) : Rat) = 1 := by decide +kernel
  have i2 : ((-2 : Int) : Rat) / ((1 : Int) : Rat) = -2 := by decide +kernel
  have i3 : ((3 : Int) : Rat) / ((1 : Int) : Rat) = 3 := by decide +kernel
  have im : ((-1 : Int) : Rat) / ((1 : Int) : Rat) = -1 := by decide +kernel
  have iq : ((1 : Int) : Rat) / ((4 : Int) : Rat) = 1 / 4 := by decide +kernel
  have hE := aim_E o1 o2 o3 a1 a2 a3 b1 b2 b3 c1 c2 c3 u v
  have hD := aim_D o1 o2 o3 a1 a2 a3 b1 b2 b3 c1 c2 c3 u v k
  have hU := aim_U o1 o2 o3 a1 a2 a3 b1 b2 b3 c1 c2 c3 u v k
  have hV := aim_V o1 o2 o3 a1 a2 a3 b1 b2 b3 c1 c2 c3 u v k
  rw [hS] at hE hD hU hV
  have g0 : ¬ k = 0 := fun h => hl (by rw [h]; exact Rat.le_refl)
  have g1 : X / (k * X) = 1 / k := by clear hS hE hD hU hV; grind
  have g2 : k * u * X / (k * X) = u := by clear hS hE hD hU hV; grind
  have g3 : -(k * v * X) / -(k * X) = v := by clear hS hE hD hU hV; grind
  have g4 : 0 < 1 / k := aim_pos hl
  have hk : htOk (1 / k) u v = true := yes_all (by clear hS hE hD hU hV; grind) (by clear hS hE hD hU hV; grind) (by clear hS hE hD hU hV; grind) (by clear hS hE hD hU hV; grind)
  have y1 := ht_yes hk
  refine At.ok (fuel := 100) (hs := [true, true, true, true, true, true, true, false, true, true, true, true]) S19_ok Try.func3 (by kernel_rfl) ?_
  simp (maxSteps := 10000000) only [Try.f3, go_sem, hS, hE, hD, hU, hV, g1, g2, g3, g0, hk, y1, hX, hl, q1, q2, q3, decide_eq_true_eq, decide_eq_false_iff_not, ne_eq, not_true_eq_false, not_false_eq_true, Decidable.not_not, beq_iff_eq, beq_eq_false_iff_ne, bne_eq_false_iff_eq, bne_iff_ne, qsgn_zero, qsgn_le, qsgn_lt, qsgn_gt, qsgn_ge, eq_self, decide_true, decide_false, and_self, i0, i1, i2, i3, im, iq, Nat.reduceAdd, Nat.reduceSub, Nat.reduceMul, Int.reduceAdd, Int.reduceSub, Int.reduceToNat]
  and_intros
  all_goals first | with_reducible rfl | assumption | omega | decide | (grind)
set_option maxHeartbeats 16000000 in
theorem taims_at (o1 o2 o3 a1 a2 a3 b1 b2 b3 c1 c2 c3 u v k : Rat) (K : Nat) (K1 : 1 ≤ K) (hK : K ≤ 1048576) : At Try.prog 3 [mkR [o1, o2, o3] K, mkR [a1, a2, a3, b1, b2, b3, c1, c2, c3] K, mkR [u, v, k] K] ⟨.inl ⟨some (.inl (.bool true))⟩⟩ := by
  by_cases hX : ((b2 - a2) * (c3 - a3) - (b3 - a3) * (c2 - a2)) * (a1 - o1) + ((b3 - a3) * (c1 - a1) - (b1 - a1) * (c3 - a3)) * (a2 - o2) + ((b1 - a1) * (c2 - a2) - (b2 - a2) * (c1 - a1)) * (a3 - o3) = 0
  · by_cases q1 : u ≥ 0
    · by_cases q2 : v ≥ 0
      · by_cases q3 : u + v - 1 ≤ 0
        · exact taims_3 o1 o2 o3 a1 a2 a3 b1 b2 b3 c1 c2 c3 u v k _ K K1 hK rfl hX q1 q2 q3
        · exact taims_2 o1 o2 o3 a1 a2 a3 b1 b2 b3 c1 c2 c3 u v k _ K K1 hK rfl hX q1 q2 q3
      · exact taims_1 o1 o2 o3 a1 a2 a3 b1 b2 b3 c1 c2 c3 u v k _ K K1 hK rfl hX q1 q2
    · exact taims_0 o1 o2 o3 a1 a2 a3 b1 b2 b3 c1 c2 c3 u v k _ K K1 hK rfl hX q1
  by_cases hl : k ≤ 0
  · by_cases q1 : u ≥ 0
    · by_cases q2 : v ≥ 0
      · by_cases q3 : u + v - 1 ≤ 0
        · exact taims_7 o1 o2 o3 a1 a2 a3 b1 b2 b3 c1 c2 c3 u v k _ K K1 hK rfl hX hl q1 q2 q3
        · exact taims_6 o1 o2 o3 a1 a2 a3 b1 b2 b3 c1 c2 c3 u v k _ K K1 hK rfl hX hl q1 q2 q3
      · exact taims_5 o1 o2 o3 a1 a2 a3 b1 b2 b3 c1 c2 c3 u v k _ K K1 hK rfl hX hl q1 q2
    · exact taims_4 o1 o2 o3 a1 a2 a3 b1 b2 b3 c1 c2 c3 u v k _ K K1 hK rfl hX hl q1
  by_cases q1 : u ≥ 0
  · by_cases q2 : v ≥ 0
    · by_cases q3 : u + v - 1 ≤ 0
      · exact taims_11 o1 o2 o3 a1 a2 a3 b1 b2 b3 c1 c2 c3 u v k _ K K1 hK rfl hX hl q1 q2 q3
      · exact taims_10 o1 o2 o3 a1 a2 a3 b1 b2 b3 c1 c2 c3 u v k _ K K1 hK rfl hX hl q1 q2 q3
    · exact taims_9 o1 o2 o3 a1 a2 a3 b1 b2 b3 c1 c2 c3 u v k _ K K1 hK rfl hX hl q1 q2
  · exact taims_8 o1 o2 o3 a1 a2 a3 b1 b2 b3 c1 c2 c3 u v k _ K K1 hK rfl hX hl q1
end Go.Proofs.Ytmoicmjljflcgaa.Sym
