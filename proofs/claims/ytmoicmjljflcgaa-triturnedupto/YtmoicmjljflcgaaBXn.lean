/- penumbralaw08.TriTurned: true. -/
import Derived.Test.YtmoicmjljflcgaaJF
namespace Go.Proofs.Ytmoicmjljflcgaa.Sym
open Go Go.RowKit M Kahn
set_option maxRecDepth 1000000
set_option linter.unusedSimpArgs false
set_option linter.unusedVariables false

theorem turn_q {E : Rat} (h : ¬ E = 0) (x y : Rat) : E * x / (E * y) = x / y := by
  by_cases hy : y = 0
  · subst hy; rw [Rat.mul_zero, div_z, div_z]
  · grind
set_option maxHeartbeats 16000000 in
theorem tturned_at (o1 o2 o3 d1 d2 d3 a1 a2 a3 b1 b2 b3 c1 c2 c3 : Rat) (K : Nat) (K1 : 1 ≤ K) (hK : K ≤ 1048576) : At Try.prog 4 [mkR [o1, o2, o3] K, mkR [d1, d2, d3] K, mkR [a1, a2, a3, b1, b2, b3, c1, c2, c3] K] ⟨.inl ⟨some (.inl (.bool true))⟩⟩ := by
  have i0 : ((0 : Int) : Rat) / ((1 : Int) : Rat) = 0 := by decide +kernel
  have i1 : ((1 : Int) : Rat) / ((1 : Int) : Rat) = 1 := by decide +kernel
  have i2 : ((-2 : Int) : Rat) / ((1 : Int) : Rat) = -2 := by decide +kernel
  have i3 : ((3 : Int) : Rat) / ((1 : Int) : Rat) = 3 := by decide +kernel
  have im : ((-1 : Int) : Rat) / ((1 : Int) : Rat) = -1 := by decide +kernel
  have iq : ((1 : Int) : Rat) / ((4 : Int) : Rat) = 1 / 4 := by decide +kernel
  obtain ⟨D, hD⟩ : ∃ x, ((b2 - a2) * (c3 - a3) - (b3 - a3) * (c2 - a2)) * d1 + ((b3 - a3) * (c1 - a1) - (b1 - a1) * (c3 - a3)) * d2 + ((b1 - a1) * (c2 - a2) - (b2 - a2) * (c1 - a1)) * d3 = x := ⟨_, rfl⟩
  obtain ⟨S, hS⟩ : ∃ x, ((b2 - a2) * (c3 - a3) - (b3 - a3) * (c2 - a2)) * (a1 - o1) + ((b3 - a3) * (c1 - a1) - (b1 - a1) * (c3 - a3)) * (a2 - o2) + ((b1 - a1) * (c2 - a2) - (b2 - a2) * (c1 - a1)) * (a3 - o3) = x := ⟨_, rfl⟩
  obtain ⟨U, hU⟩ : ∃ x, ((a2 - o2) * d3 - (a3 - o3) * d2) * (c1 - a1) + ((a3 - o3) * d1 - (a1 - o1) * d3) * (c2 - a2) + ((a1 - o1) * d2 - (a2 - o2) * d1) * (c3 - a3) = x := ⟨_, rfl⟩
  obtain ⟨V, hV⟩ : ∃ x, ((a2 - o2) * d3 - (a3 - o3) * d2) * (b1 - a1) + ((a3 - o3) * d1 - (a1 - o1) * d3) * (b2 - a2) + ((a1 - o1) * d2 - (a2 - o2) * d1) * (b3 - a3) = x := ⟨_, rfl⟩
  have tbD : ((c2 - b2) * (a3 - b3) - (c3 - b3) * (a2 - b2)) * d1 + ((c3 - b3) * (a1 - b1) - (c1 - b1) * (a3 - b3)) * d2 + ((c1 - b1) * (a2 - b2) - (c2 - b2) * (a1 - b1)) * d3 = D := by subst hD hS hU hV; grind
  have tbS : ((c2 - b2) * (a3 - b3) - (c3 - b3) * (a2 - b2)) * (b1 - o1) + ((c3 - b3) * (a1 - b1) - (c1 - b1) * (a3 - b3)) * (b2 - o2) + ((c1 - b1) * (a2 - b2) - (c2 - b2) * (a1 - b1)) * (b3 - o3) = S := by subst hD hS hU hV; grind
  have tbU : ((b2 - o2) * d3 - (b3 - o3) * d2) * (a1 - b1) + ((b3 - o3) * d1 - (b1 - o1) * d3) * (a2 - b2) + ((b1 - o1) * d2 - (b2 - o2) * d1) * (a3 - b3) = -V := by subst hD hS hU hV; grind
  have tbV : ((b2 - o2) * d3 - (b3 - o3) * d2) * (c1 - b1) + ((b3 - o3) * d1 - (b1 - o1) * d3) * (c2 - b2) + ((b1 - o1) * d2 - (b2 - o2) * d1) * (c3 - b3) = U - D - V := by subst hD hS hU hV; grind
  have tcD : ((c2 - a2) * (b3 - a3) - (c3 - a3) * (b2 - a2)) * d1 + ((c3 - a3) * (b1 - a1) - (c1 - a1) * (b3 - a3)) * d2 + ((c1 - a1) * (b2 - a2) - (c2 - a2) * (b1 - a1)) * d3 = -D := by subst hD hS hU hV; grind
  have tcS : ((c2 - a2) * (b3 - a3) - (c3 - a3) * (b2 - a2)) * (a1 - o1) + ((c3 - a3) * (b1 - a1) - (c1 - a1) * (b3 - a3)) * (a2 - o2) + ((c1 - a1) * (b2 - a2) - (c2 - a2) * (b1 - a1)) * (a3 - o3) = -S := by subst hD hS hU hV; grind
  have tdD : ((b2 - a2) * (c3 - a3) - (b3 - a3) * (c2 - a2)) * (3 * d1) + ((b3 - a3) * (c1 - a1) - (b1 - a1) * (c3 - a3)) * (3 * d2) + ((b1 - a1) * (c2 - a2) - (b2 - a2) * (c1 - a1)) * (3 * d3) = 3 * D := by subst hD hS hU hV; grind
  have tdU : ((a2 - o2) * (3 * d3) - (a3 - o3) * (3 * d2)) * (c1 - a1) + ((a3 - o3) * (3 * d1) - (a1 - o1) * (3 * d3)) * (c2 - a2) + ((a1 - o1) * (3 * d2) - (a2 - o2) * (3 * d1)) * (c3 - a3) = 3 * U := by subst hD hS hU hV; grind
  have tdV : ((a2 - o2) * (3 * d3) - (a3 - o3) * (3 * d2)) * (b1 - a1) + ((a3 - o3) * (3 * d1) - (a1 - o1) * (3 * d3)) * (b2 - a2) + ((a1 - o1) * (3 * d2) - (a2 - o2) * (3 * d1)) * (b3 - a3) = 3 * V := by subst hD hS hU hV; grind
  by_cases h0 : D = 0
  · have z0 : ∀ x : Rat, x / 0 = 0 := fun x => div_z _
    have hk : htOk (S / D) (U / D) (V / -D) = false := no_s (by rw [h0]; grind)
    have hkb : htOk (S / D) (-V / D) ((U - D - V) / -D) = false := no_s (by rw [h0]; grind)
    have hkc : htOk (-S / -D) (V / -D) (U / - -D) = false := no_s (by rw [h0]; grind)
    have hkd : htOk (S / (3 * D)) (3 * U / (3 * D)) (3 * V / -(3 * D)) = false := no_s (by rw [h0]; grind)
    refine At.ok (fuel := 100) (hs := [false, false, false, false, true]) S19_ok Try.func4 (by kernel_rfl) ?_
    simp (maxSteps := 10000000) only [Try.f4, go_sem, hD, hS, hU, hV, tbD, tbS, tbU, tbV, tcD, tcS, tdD, tdU, tdV, hk, hkb, hkc, hkd, decide_eq_true_eq, decide_eq_false_iff_not, ne_eq, not_true_eq_false, not_false_eq_true, Decidable.not_not, beq_iff_eq, beq_eq_false_iff_ne, bne_eq_false_iff_eq, bne_iff_ne, qsgn_zero, qsgn_le, qsgn_lt, qsgn_gt, qsgn_ge, eq_self, decide_true, decide_false, and_self, i0, i1, i2, i3, im, iq, Nat.reduceAdd, Nat.reduceSub, Nat.reduceMul, Int.reduceAdd, Int.reduceSub, Int.reduceToNat]
    and_intros
    all_goals first | with_reducible rfl | assumption | omega | decide | (grind)
  have e1 : -V / D = V / -D := by grind
  have e2 : (U - D - V) / -D = 1 - U / D - V / -D := by grind
  have e3 : -S / -D = S / D := by grind
  have e4 : U / - -D = U / D := by grind
  have e5 : S / (3 * D) = S / D / 3 := by grind
  have e6 : 3 * U / (3 * D) = U / D := turn_q (by decide +kernel) _ _
  have e7 : 3 * V / -(3 * D) = V / -D := by rw [show -(3 * D) = 3 * -D from by grind]; exact turn_q (by decide +kernel) _ _
  obtain ⟨s, gs⟩ : ∃ x, S / D = x := ⟨_, rfl⟩
  obtain ⟨u, gu⟩ : ∃ x, U / D = x := ⟨_, rfl⟩
  obtain ⟨w, gw⟩ : ∃ x, V / -D = x := ⟨_, rfl⟩
  rw [gw] at e1 e7
  rw [gu] at e4 e6
  rw [gs] at e3 e5
  rw [gu, gw] at e2
  cases hk : htOk s u w with
  | false =>
    have hno := of_no hk
    have hkb : htOk (s) (w) (1 - u - w) = false := by unfold htOk; exact decide_eq_false (by grind)
    have hkc : htOk (s) (w) (u) = false := by unfold htOk; exact decide_eq_false (by grind)
    have hkd : htOk (s / 3) (u) (w) = false := by unfold htOk; exact decide_eq_false (by grind)
    refine At.ok (fuel := 100) (hs := [false, false, false, false, true]) S19_ok Try.func4 (by kernel_rfl) ?_
    simp (maxSteps := 10000000) only [Try.f4, go_sem, hD, hS, hU, hV, tbD, tbS, tbU, tbV, tcD, tcS, tdD, tdU, tdV, gs, gu, gw, e1, e2, e3, e4, e5, e6, e7, hk, hkb, hkc, hkd, decide_eq_true_eq, decide_eq_false_iff_not, ne_eq, not_true_eq_false, not_false_eq_true, Decidable.not_not, beq_iff_eq, beq_eq_false_iff_ne, bne_eq_false_iff_eq, bne_iff_ne, qsgn_zero, qsgn_le, qsgn_lt, qsgn_gt, qsgn_ge, eq_self, decide_true, decide_false, and_self, i0, i1, i2, i3, im, iq, Nat.reduceAdd, Nat.reduceSub, Nat.reduceMul, Int.reduceAdd, Int.reduceSub, Int.reduceToNat]
    and_intros
    all_goals first | with_reducible rfl | assumption | omega | decide | (grind)
  | true =>
    have hyes := of_yes hk
    have hkb : htOk (s) (w) (1 - u - w) = true := by unfold htOk; exact decide_eq_true (by grind)
    have hkc : htOk (s) (w) (u) = true := by unfold htOk; exact decide_eq_true (by grind)
    have hkd : htOk (s / 3) (u) (w) = true := by unfold htOk; exact decide_eq_true (by grind)
    have y0 := ht_yes hk
    have yb := ht_yes hkb
    have yc := ht_yes hkc
    have yd := ht_yes hkd
    refine At.ok (fuel := 100) (hs := [true, true, true, true, true, true, true, true, true, true, true, true]) S19_ok Try.func4 (by kernel_rfl) ?_
    simp (maxSteps := 10000000) only [Try.f4, go_sem, hD, hS, hU, hV, tbD, tbS, tbU, tbV, tcD, tcS, tdD, tdU, tdV, gs, gu, gw, e1, e2, e3, e4, e5, e6, e7, hk, hkb, hkc, hkd, y0, yb, yc, yd, decide_eq_true_eq, decide_eq_false_iff_not, ne_eq, not_true_eq_false, not_false_eq_true, Decidable.not_not, beq_iff_eq, beq_eq_false_iff_ne, bne_eq_false_iff_eq, bne_iff_ne, qsgn_zero, qsgn_le, qsgn_lt, qsgn_gt, qsgn_ge, eq_self, decide_true, decide_false, and_self, i0, i1, i2, i3, im, iq, Nat.reduceAdd, Nat.reduceSub, Nat.reduceMul, Int.reduceAdd, Int.reduceSub, Int.reduceToNat]
    and_intros
    all_goals first | with_reducible rfl | assumption | omega | decide | (grind)
end Go.Proofs.Ytmoicmjljflcgaa.Sym
