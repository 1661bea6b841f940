/- penumbralaw10.BoxesMeet: true. -/
import Derived.Test.YtbobhhnhlgdkiaaGreatBOw10g
namespace Go.Proofs.YtbobhhnhlgdkiaaGreat.Sy
open Go Go.RowKit M Kahn
set_option maxRecDepth 1000000
set_option linter.unusedSimpArgs false
set_option linter.unusedVariables false

set_option maxHeartbeats 16000000 in
theorem boxesMeet_at (o1 o2 o3 d1 d2 d3 a1 a2 a3 b1 b2 b3 c1 c2 c3 : Rat) (K : Nat) (K1 : 1 ≤ K) (hK : K ≤ 1048576) (hk0 : True) (hk1 : True) (hk2 : True) : At Tryz.prog 4 [mkR [o1, o2, o3] K, mkR [d1, d2, d3] K, mkR [a1, a2, a3, b1, b2, b3, c1, c2, c3] K] ⟨.inl (.held (.inr (.inl (.bool (true)))))⟩ := by
  have i0 : ((0 : Int) : Rat) / ((1 : Int) : Rat) = 0 := by decide +kernel
  have i1 : ((1 : Int) : Rat) / ((1 : Int) : Rat) = 1 := by decide +kernel
  have i2 : ((2 : Int) : Rat) / ((1 : Int) : Rat) = 2 := by decide +kernel
  have im : ((-1 : Int) : Rat) / ((1 : Int) : Rat) = -1 := by decide +kernel
  have m1 := meet_1 o1 o2 o3 d1 d2 d3 a1 a2 a3 b1 b2 b3 c1 c2 c3
  have m2 := meet_2 o1 o2 o3 d1 d2 d3 a1 a2 a3 b1 b2 b3 c1 c2 c3
  have m3 := meet_3 o1 o2 o3 d1 d2 d3 a1 a2 a3 b1 b2 b3 c1 c2 c3
  obtain ⟨DD, hDD⟩ : ∃ x, ((b2 - a2) * (c3 - a3) - (b3 - a3) * (c2 - a2)) * d1 + ((b3 - a3) * (c1 - a1) - (b1 - a1) * (c3 - a3)) * d2 + ((b1 - a1) * (c2 - a2) - (b2 - a2) * (c1 - a1)) * d3 = x := ⟨_, rfl⟩
  obtain ⟨SS, hSS⟩ : ∃ x, ((b2 - a2) * (c3 - a3) - (b3 - a3) * (c2 - a2)) * (a1 - o1) + ((b3 - a3) * (c1 - a1) - (b1 - a1) * (c3 - a3)) * (a2 - o2) + ((b1 - a1) * (c2 - a2) - (b2 - a2) * (c1 - a1)) * (a3 - o3) = x := ⟨_, rfl⟩
  obtain ⟨UU, hUU⟩ : ∃ x, ((a2 - o2) * d3 - (a3 - o3) * d2) * (c1 - a1) + ((a3 - o3) * d1 - (a1 - o1) * d3) * (c2 - a2) + ((a1 - o1) * d2 - (a2 - o2) * d1) * (c3 - a3) = x := ⟨_, rfl⟩
  obtain ⟨VV, hVV⟩ : ∃ x, ((a2 - o2) * d3 - (a3 - o3) * d2) * (b1 - a1) + ((a3 - o3) * d1 - (a1 - o1) * d3) * (b2 - a2) + ((a1 - o1) * d2 - (a2 - o2) * d1) * (b3 - a3) = x := ⟨_, rfl⟩
  rw [hDD, hSS, hUU, hVV] at m1 m2 m3
  cases hk : htOk (SS / DD) (UU / DD) (VV / (-DD)) with
  | false =>
    have y1 := ht_no hk
    refine At.ok (fuel := 100) (hs := [false, true, true]) S2d_ok Tryz.func4 (by kernel_rfl) ?_
    simp (maxSteps := 10000000) only [Tryz.f4, go_sem, hDD, hSS, hUU, hVV, hk, y1, i0, i1, i2, im, decide_eq_true_eq, decide_eq_false_iff_not, ne_eq, not_true_eq_false, not_false_eq_true, Decidable.not_not, beq_iff_eq, beq_eq_false_iff_ne, bne_eq_false_iff_eq, bne_iff_ne, qsgn_zero, qsgn_le, qsgn_lt, qsgn_gt, qsgn_ge, Nat.reduceAdd, Nat.reduceSub, Nat.reduceMul, Int.reduceAdd, Int.reduceSub, Int.reduceToNat]
    and_intros
    all_goals first | with_reducible rfl | omega | assumption | exact .inl rfl | exact id | (grind)
  | true =>
    have y1 := ht_yes hk
    obtain ⟨g1, g2, g3⟩ := meet_in o1 o2 o3 d1 d2 d3 a1 a2 a3 b1 b2 b3 c1 c2 c3 DD SS UU VV m1 m2 m3 hk
    have g4 : ¬ (d1 = 0 ∧ d2 = 0 ∧ d3 = 0) := fun ⟨e1, e2, e3⟩ => g3 (by rw [← hDD, e1, e2, e3]; grind)
    clear m1 m2 m3 g3
    obtain ⟨G, hG⟩ : ∃ x, jns [dbl (a1, a2, a3), dbl (b1, b2, b3), dbl (c1, c2, c3)] = x := ⟨_, rfl⟩
    rw [hG] at g2
    have g2 : inB ((G.1.1, G.1.2.1, G.1.2.2), (G.2.1, G.2.2.1, G.2.2.2)) (o1 + SS / DD * d1, o2 + SS / DD * d2, o3 + SS / DD * d3) = true := g2
    have W := clp_within (o1, o2, o3) (d1, d2, d3) ((G.1.1, G.1.2.1, G.1.2.2), (G.2.1, G.2.2.1, G.2.2.2)) (s := SS / DD) (by grind)
    rw [show inB ((G.1.1, G.1.2.1, G.1.2.2), (G.2.1, G.2.2.1, G.2.2.2)) (onR (o1, o2, o3) (d1, d2, d3) (SS / DD)) = true from g2] at W
    have W := W.symm
    simp only [Bool.and_eq_true, Bool.or_eq_true, decide_eq_true_eq] at W
    obtain ⟨w1, w2, w3⟩ := W
    have w2 : SS / DD - clFrom (o1, o2, o3) (d1, d2, d3) ((G.1.1, G.1.2.1, G.1.2.2), (G.2.1, G.2.2.1, G.2.2.2)) ≥ 0 := by grind
    cases hs : still (d1, d2, d3) with
    | true =>
      refine At.ok (fuel := 100) (hs := [true, true, true, true, true, false]) S2d_ok Tryz.func4 (by kernel_rfl) ?_
      simp (maxSteps := 10000000) only [Tryz.f4, go_sem, hDD, hSS, hUU, hVV, hk, y1, rowG, rowGE, ratsH, encV, hG, w1, w2, hs, g2, g4, Bool.true_and, i0, i1, i2, im, decide_eq_true_eq, decide_eq_false_iff_not, ne_eq, not_true_eq_false, not_false_eq_true, Decidable.not_not, beq_iff_eq, beq_eq_false_iff_ne, bne_eq_false_iff_eq, bne_iff_ne, qsgn_zero, qsgn_le, qsgn_lt, qsgn_gt, qsgn_ge, Nat.reduceAdd, Nat.reduceSub, Nat.reduceMul, Int.reduceAdd, Int.reduceSub, Int.reduceToNat]
      and_intros
      all_goals first | with_reducible rfl | omega | assumption | exact .inl rfl | exact id | (grind)
    | false =>
      rw [hs] at w3
      have w4 : SS / DD ≤ clTo (o1, o2, o3) (d1, d2, d3) ((G.1.1, G.1.2.1, G.1.2.2), (G.2.1, G.2.2.1, G.2.2.2)) := by simpa using w3
      have w3 : SS / DD - clTo (o1, o2, o3) (d1, d2, d3) ((G.1.1, G.1.2.1, G.1.2.2), (G.2.1, G.2.2.1, G.2.2.2)) ≤ 0 := by grind
      refine At.ok (fuel := 100) (hs := [true, true, true, true, true, true, false]) S2d_ok Tryz.func4 (by kernel_rfl) ?_
      simp (maxSteps := 10000000) only [Tryz.f4, go_sem, hDD, hSS, hUU, hVV, hk, y1, rowG, rowGE, ratsH, encV, hG, w1, w2, w3, hs, g2, g4, Bool.and_false, i0, i1, i2, im, decide_eq_true_eq, decide_eq_false_iff_not, ne_eq, not_true_eq_false, not_false_eq_true, Decidable.not_not, beq_iff_eq, beq_eq_false_iff_ne, bne_eq_false_iff_eq, bne_iff_ne, qsgn_zero, qsgn_le, qsgn_lt, qsgn_gt, qsgn_ge, Nat.reduceAdd, Nat.reduceSub, Nat.reduceMul, Int.reduceAdd, Int.reduceSub, Int.reduceToNat]
      and_intros
      all_goals first | with_reducible rfl | omega | assumption | exact .inl rfl | exact id | (grind)
theorem boxesMeet_tp (o : V3) (d : V3) (t : T9) (K : Nat) (K1 : 1 ≤ K) (hK : K ≤ 1048576) (hk0 : True) (hk1 : True) (hk2 : True) : At Tryz.prog 4 [mkR [o.1, o.2.1, o.2.2] K, mkR [d.1, d.2.1, d.2.2] K, mkR [t.1.1, t.1.2.1, t.1.2.2, t.2.1.1, t.2.1.2.1, t.2.1.2.2, t.2.2.1, t.2.2.2.1, t.2.2.2.2] K] ⟨.inl (.held (.inr (.inl (.bool (true)))))⟩ :=
  boxesMeet_at o.1 o.2.1 o.2.2 d.1 d.2.1 d.2.2 t.1.1 t.1.2.1 t.1.2.2 t.2.1.1 t.2.1.2.1 t.2.1.2.2 t.2.2.1 t.2.2.2.1 t.2.2.2.2 K K1 hK hk0 hk1 hk2
end Go.Proofs.YtbobhhnhlgdkiaaGreat.Sy
