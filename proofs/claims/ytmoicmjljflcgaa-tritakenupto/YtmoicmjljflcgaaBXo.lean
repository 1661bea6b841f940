/- penumbralaw08.TriTaken: true. -/
import Derived.Test.YtmoicmjljflcgaaJF
namespace Go.Proofs.Ytmoicmjljflcgaa.Sym
open Go Go.RowKit M Kahn
set_option maxRecDepth 1000000
set_option linter.unusedSimpArgs false
set_option linter.unusedVariables false

theorem take3 (m11 m12 m13 m21 m22 m23 m31 m32 m33 z1 z2 z3 y1 y2 y3 x1 x2 x3 : Rat) : ((m21 * z1 + m22 * z2 + m23 * z3) * (m31 * y1 + m32 * y2 + m33 * y3) - (m31 * z1 + m32 * z2 + m33 * z3) * (m21 * y1 + m22 * y2 + m23 * y3)) * (m11 * x1 + m12 * x2 + m13 * x3) + ((m31 * z1 + m32 * z2 + m33 * z3) * (m11 * y1 + m12 * y2 + m13 * y3) - (m11 * z1 + m12 * z2 + m13 * z3) * (m31 * y1 + m32 * y2 + m33 * y3)) * (m21 * x1 + m22 * x2 + m23 * x3) + ((m11 * z1 + m12 * z2 + m13 * z3) * (m21 * y1 + m22 * y2 + m23 * y3) - (m21 * z1 + m22 * z2 + m23 * z3) * (m11 * y1 + m12 * y2 + m13 * y3)) * (m31 * x1 + m32 * x2 + m33 * x3) = (m11 * (m22 * m33 - m23 * m32) + m12 * (m23 * m31 - m21 * m33) + m13 * (m21 * m32 - m22 * m31)) * ((z2 * y3 - z3 * y2) * x1 + (z3 * y1 - z1 * y3) * x2 + (z1 * y2 - z2 * y1) * x3) := by grind
theorem take_q {E : Rat} (h : ¬ E = 0) (x y : Rat) : E * x / (E * y) = x / y := by
  by_cases hy : y = 0
  · subst hy; rw [Rat.mul_zero, div_z, div_z]
  · grind
set_option maxHeartbeats 16000000 in
theorem ttaken_at (m11 m12 m13 m21 m22 m23 m31 m32 m33 m41 m42 m43 o1 o2 o3 d1 d2 d3 a1 a2 a3 b1 b2 b3 c1 c2 c3 : Rat) (K : Nat) (K1 : 1 ≤ K) (hK : K ≤ 1048576) : At Try.prog 5 [mkR [m11, m12, m13, m21, m22, m23, m31, m32, m33, m41, m42, m43] K, mkR [o1, o2, o3, d1, d2, d3] K, mkR [a1, a2, a3, b1, b2, b3, c1, c2, c3] K] ⟨.inl ⟨some (.inl (.bool true))⟩⟩ := by
  have i0 : ((0 : Int) : Rat) / ((1 : Int) : Rat) = 0 := by decide +kernel
  have i1 : ((1 : Int) : Rat) / ((1 : Int) : Rat) = 1 := by decide +kernel
  have i2 : ((-2 : Int) : Rat) / ((1 : Int) : Rat) = -2 := by decide +kernel
  have i3 : ((3 : Int) : Rat) / ((1 : Int) : Rat) = 3 := by decide +kernel
  have im : ((-1 : Int) : Rat) / ((1 : Int) : Rat) = -1 := by decide +kernel
  have iq : ((1 : Int) : Rat) / ((4 : Int) : Rat) = 1 / 4 := by decide +kernel
  obtain ⟨D, hD⟩ : ∃ x, ((b2 - a2) * (c3 - a3) - (b3 - a3) * (c2 - a2)) * d1 + ((b3 - a3) * (c1 - a1) - (b1 - a1) * (c3 - a3)) * d2 + ((b1 - a1) * (c2 - a2) - (b2 - a2) * (c1 - a1)) * d3 = x := ⟨_, rfl⟩
  obtain ⟨S, hS⟩ : ∃ x, ((b2 - a2) * (c3 - a3) - (b3 - a3) * (c2 - a2)) * (a1 - o1) + ((b3 - a3) * (c1 - a1) - (b1 - a1) * (c3 - a3)) * (a2 - o2) + ((b1 - a1) * (c2 - a2) - (b2 - a2) * (c1 - a1)) * (a3 - o3) = x := ⟨_, rfl⟩
  obtain ⟨U, hU⟩ : ∃ x, ((a2 - o2) * d3 - (a3 - o3) * d2) * (c1 - a1) + ((a3 - o3) * d1 - (a1 - o1) * d3) * (c2 - a2) + ((a1 - o1) * d2 - (a2 - o2) * d1) * (c3 - a3) = x := ⟨_, rfl⟩
  obtain ⟨V, hV⟩ : ∃ x, ((a2 - o2) * d3 - (a3 - o3) * d2) * (b1 - a1) + ((a3 - o3) * d1 - (a1 - o1) * d3) * (b2 - a2) + ((a1 - o1) * d2 - (a2 - o2) * d1) * (b3 - a3) = x := ⟨_, rfl⟩
  obtain ⟨E, hE⟩ : ∃ x, m11 * (m22 * m33 - m23 * m32) + m12 * (m23 * m31 - m21 * m33) + m13 * (m21 * m32 - m22 * m31) = x := ⟨_, rfl⟩
  have rB1 : (m11 * b1 + m12 * b2 + m13 * b3 + m41) - (m11 * a1 + m12 * a2 + m13 * a3 + m41) = m11 * (b1 - a1) + m12 * (b2 - a2) + m13 * (b3 - a3) := by grind
  have rB2 : (m21 * b1 + m22 * b2 + m23 * b3 + m42) - (m21 * a1 + m22 * a2 + m23 * a3 + m42) = m21 * (b1 - a1) + m22 * (b2 - a2) + m23 * (b3 - a3) := by grind
  have rB3 : (m31 * b1 + m32 * b2 + m33 * b3 + m43) - (m31 * a1 + m32 * a2 + m33 * a3 + m43) = m31 * (b1 - a1) + m32 * (b2 - a2) + m33 * (b3 - a3) := by grind
  have rC1 : (m11 * c1 + m12 * c2 + m13 * c3 + m41) - (m11 * a1 + m12 * a2 + m13 * a3 + m41) = m11 * (c1 - a1) + m12 * (c2 - a2) + m13 * (c3 - a3) := by grind
  have rC2 : (m21 * c1 + m22 * c2 + m23 * c3 + m42) - (m21 * a1 + m22 * a2 + m23 * a3 + m42) = m21 * (c1 - a1) + m22 * (c2 - a2) + m23 * (c3 - a3) := by grind
  have rC3 : (m31 * c1 + m32 * c2 + m33 * c3 + m43) - (m31 * a1 + m32 * a2 + m33 * a3 + m43) = m31 * (c1 - a1) + m32 * (c2 - a2) + m33 * (c3 - a3) := by grind
  have rA1 : (m11 * a1 + m12 * a2 + m13 * a3 + m41) - (m11 * o1 + m12 * o2 + m13 * o3 + m41) = m11 * (a1 - o1) + m12 * (a2 - o2) + m13 * (a3 - o3) := by grind
  have rA2 : (m21 * a1 + m22 * a2 + m23 * a3 + m42) - (m21 * o1 + m22 * o2 + m23 * o3 + m42) = m21 * (a1 - o1) + m22 * (a2 - o2) + m23 * (a3 - o3) := by grind
  have rA3 : (m31 * a1 + m32 * a2 + m33 * a3 + m43) - (m31 * o1 + m32 * o2 + m33 * o3 + m43) = m31 * (a1 - o1) + m32 * (a2 - o2) + m33 * (a3 - o3) := by grind
  have tD := take3 m11 m12 m13 m21 m22 m23 m31 m32 m33 (b1 - a1) (b2 - a2) (b3 - a3) (c1 - a1) (c2 - a2) (c3 - a3) d1 d2 d3
  rw [hD, hE] at tD
  have tS := take3 m11 m12 m13 m21 m22 m23 m31 m32 m33 (b1 - a1) (b2 - a2) (b3 - a3) (c1 - a1) (c2 - a2) (c3 - a3) (a1 - o1) (a2 - o2) (a3 - o3)
  rw [hS, hE] at tS
  have tU := take3 m11 m12 m13 m21 m22 m23 m31 m32 m33 (a1 - o1) (a2 - o2) (a3 - o3) d1 d2 d3 (c1 - a1) (c2 - a2) (c3 - a3)
  rw [hU, hE] at tU
  have tV := take3 m11 m12 m13 m21 m22 m23 m31 m32 m33 (a1 - o1) (a2 - o2) (a3 - o3) d1 d2 d3 (b1 - a1) (b2 - a2) (b3 - a3)
  rw [hV, hE] at tV
  by_cases h0 : E = 0
  · refine At.ok (fuel := 100) (hs := [true, true, true]) S19_ok Try.func5 (by kernel_rfl) ?_
    simp (maxSteps := 10000000) only [Try.f5, go_sem, hD, hS, hU, hV, hE, rB1, rB2, rB3, rC1, rC2, rC3, rA1, rA2, rA3, tD, tS, tU, tV, h0, decide_eq_true_eq, decide_eq_false_iff_not, ne_eq, not_true_eq_false, not_false_eq_true, Decidable.not_not, beq_iff_eq, beq_eq_false_iff_ne, bne_eq_false_iff_eq, bne_iff_ne, qsgn_zero, qsgn_le, qsgn_lt, qsgn_gt, qsgn_ge, eq_self, decide_true, decide_false, and_self, i0, i1, i2, i3, im, iq, Nat.reduceAdd, Nat.reduceSub, Nat.reduceMul, Int.reduceAdd, Int.reduceSub, Int.reduceToNat]
    and_intros
    all_goals first | with_reducible rfl | assumption | omega | decide | (grind)
  have e1 : E * S / (E * D) = S / D := take_q h0 _ _
  have e2 : E * U / (E * D) = U / D := take_q h0 _ _
  have e3 : E * V / -(E * D) = V / -D := by rw [show -(E * D) = E * -D from by grind]; exact take_q h0 _ _
  cases hk : htOk (S / D) (U / D) (V / -D) with
  | false =>
    refine At.ok (fuel := 100) (hs := [true, false, false, false, true]) S19_ok Try.func5 (by kernel_rfl) ?_
    simp (maxSteps := 10000000) only [Try.f5, go_sem, hD, hS, hU, hV, hE, rB1, rB2, rB3, rC1, rC2, rC3, rA1, rA2, rA3, tD, tS, tU, tV, h0, e1, e2, e3, hk, decide_eq_true_eq, decide_eq_false_iff_not, ne_eq, not_true_eq_false, not_false_eq_true, Decidable.not_not, beq_iff_eq, beq_eq_false_iff_ne, bne_eq_false_iff_eq, bne_iff_ne, qsgn_zero, qsgn_le, qsgn_lt, qsgn_gt, qsgn_ge, eq_self, decide_true, decide_false, and_self, i0, i1, i2, i3, im, iq, Nat.reduceAdd, Nat.reduceSub, Nat.reduceMul, Int.reduceAdd, Int.reduceSub, Int.reduceToNat]
    and_intros
    all_goals first | with_reducible rfl | assumption | omega | decide | (grind)
  | true =>
    refine At.ok (fuel := 100) (hs := [true, false, true, true, true]) S19_ok Try.func5 (by kernel_rfl) ?_
    simp (maxSteps := 10000000) only [Try.f5, go_sem, hD, hS, hU, hV, hE, rB1, rB2, rB3, rC1, rC2, rC3, rA1, rA2, rA3, tD, tS, tU, tV, h0, e1, e2, e3, hk, decide_eq_true_eq, decide_eq_false_iff_not, ne_eq, not_true_eq_false, not_false_eq_true, Decidable.not_not, beq_iff_eq, beq_eq_false_iff_ne, bne_eq_false_iff_eq, bne_iff_ne, qsgn_zero, qsgn_le, qsgn_lt, qsgn_gt, qsgn_ge, eq_self, decide_true, decide_false, and_self, i0, i1, i2, i3, im, iq, Nat.reduceAdd, Nat.reduceSub, Nat.reduceMul, Int.reduceAdd, Int.reduceSub, Int.reduceToNat]
    and_intros
    all_goals first | with_reducible rfl | assumption | omega | decide | (grind)
end Go.Proofs.Ytmoicmjljflcgaa.Sym
