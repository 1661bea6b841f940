/- package boxes: narrow. -/
import Derived.Test.YtbobhhnhlgdkiaaGreatJT
namespace Go.Proofs.YtbobhhnhlgdkiaaGreat.Sy
open Go Go.RowKit M Kahn
set_option maxRecDepth 1000000
set_option linter.unusedSimpArgs false
set_option linter.unusedVariables false

@[go_sem] def sNarrow : Spec := ⟨18, fun xs => match xs with
  | [.agg [.held (.inl (f, K1, true)), .held (.inl (t, K2, true)), .held (.inr (.inl (.bool op)))], x1, x2, x3, x4] => match rats x1, rats x2, rats x3, rats x4 with
    | some ([o], K), some ([d], L), some ([lo], M), some ([hi], N) => some (⟨.inr [.agg [.held (.inl (nF f o d lo hi, (max (max K1 K2) (K + L + max M N + 1)), true)), .held (.inl (nT t op o d lo hi, (max (max K1 K2) (K + L + max M N + 1)), true)), .held (.inr (.inl (.bool (nO op d))))], .held (.inr (.inl (.bool (nK f t op o d lo hi))))]⟩, 1 ≤ K ∧ 1 ≤ L ∧ 1 ≤ M ∧ 1 ≤ N ∧ 2 * (max (max K1 K2) (K + L + max M N + 1)) + 2 ≤ 1073741824 ∧ 1 ≤ K1 ∧ 1 ≤ K2)
    | _, _, _, _ => none
  | _ => none, nomem⟩
set_option maxHeartbeats 16000000 in
theorem sNarrow_ok : SpecOk Tryz.prog sNarrow := SpecOk.mk' Tryz.func18 (by kernel_rfl) (by kernel_rfl) (fun xs r p h hp => by
  simp only [sNarrow] at h
  split at h
  · rename_i f K1 t K2 op x1 x2 x3 x4
    split at h
    · rename_i o K d L lo M hi N ha hb hc hd
      cases h
      obtain ⟨q1, q2, q3, q4, q5, q6, q7⟩ := hp
      refine At.weak (ys := [.agg [.held (.inl (f, K1, true)), .held (.inl (t, K2, true)), .held (.inr (.inl (.bool op)))], mkR [o] K, mkR [d] L, mkR [lo] M, mkR [hi] N]) ?_ fun E w args ⟨v0, r0, e0, k0, v1, r1, e1, k1, v2, r2, e2, k2, v3, r3, e3, k3, v4, r4, e4, k4, e5⟩ => ⟨v0, r0, e0, k0, v1, r1, e1, rats_mk ha k1, v2, r2, e2, rats_mk hb k2, v3, r3, e3, rats_mk hc k3, v4, r4, e4, rats_mk hd k4, e5⟩
      clear ha hb hc hd
      have hb0 : K + M + 1 + L ≤ (max (max K1 K2) (K + L + max M N + 1)) ∧ K + N + 1 + L ≤ (max (max K1 K2) (K + L + max M N + 1)) ∧ K1 ≤ (max (max K1 K2) (K + L + max M N + 1)) ∧ K2 ≤ (max (max K1 K2) (K + L + max M N + 1)) := by omega
      obtain ⟨C0, hC⟩ : ∃ C, (max (max K1 K2) (K + L + max M N + 1)) = C := ⟨_, rfl⟩
      rw [hC] at hb0 q5
      rw [hC]
      obtain ⟨hb1, hb2, hb3, hb4⟩ := hb0
      by_cases hd : d = 0
      · rw [nF_still hd, nT_still hd, nO_still hd, nK_still hd]
        cases hb : btw o lo hi with
        | false =>
          refine At.ok (fuel := 60) (hs := [true, false]) S29_ok Tryz.func18 (by kernel_rfl) ?_
          simp (maxSteps := 10000000) only [Tryz.f18, go_sem, hd, hb, Nat.max_self, decide_eq_true_eq, decide_eq_false_iff_not, ne_eq, not_true_eq_false, not_false_eq_true, Decidable.not_not, beq_iff_eq, beq_eq_false_iff_ne, bne_eq_false_iff_eq, bne_iff_ne, qsgn_zero, qsgn_le, qsgn_lt, qsgn_gt, qsgn_ge, Nat.reduceAdd, Nat.reduceSub, Nat.reduceMul, Int.reduceAdd, Int.reduceSub, Int.reduceToNat]
          and_intros
          all_goals first | with_reducible rfl | omega | assumption | exact .inl rfl | exact id | (grind)
        | true =>
          refine At.ok (fuel := 60) (hs := [true, true]) S29_ok Tryz.func18 (by kernel_rfl) ?_
          simp (maxSteps := 10000000) only [Tryz.f18, go_sem, hd, hb, Nat.max_self, decide_eq_true_eq, decide_eq_false_iff_not, ne_eq, not_true_eq_false, not_false_eq_true, Decidable.not_not, beq_iff_eq, beq_eq_false_iff_ne, bne_eq_false_iff_eq, bne_iff_ne, qsgn_zero, qsgn_le, qsgn_lt, qsgn_gt, qsgn_ge, Nat.reduceAdd, Nat.reduceSub, Nat.reduceMul, Int.reduceAdd, Int.reduceSub, Int.reduceToNat]
          and_intros
          all_goals first | with_reducible rfl | omega | assumption | exact .inl rfl | exact id | (grind)
      · rw [nO_move hd]
        by_cases hn : d < 0
        · have hen : enA o d lo hi = (hi - o) / d := if_neg (by grind)
          have hex : exA o d lo hi = (lo - o) / d := if_neg (by grind)
          rw [nF_move hd, nT_move hd, nK_move hd, hen, hex]
          clear hen hex
          obtain ⟨A, hA⟩ : ∃ A, (hi - o) / d = A := ⟨_, rfl⟩
          obtain ⟨B, hB⟩ : ∃ B, (lo - o) / d = B := ⟨_, rfl⟩
          rw [hA, hB]
          by_cases h1 : A - f > 0
          · rw [mx_put h1]
            cases op with
            | true =>
              simp only [if_true]
              by_cases hk : A - B ≤ 0
              · rw [show decide (A ≤ B) = true from decide_eq_true (by grind)]
                refine At.ok (fuel := 60) (hs := [false, true, true, true, true, true]) S29_ok Tryz.func18 (by kernel_rfl) ?_
                simp (maxSteps := 10000000) only [Tryz.f18, go_sem, hd, hn, hA, hB, h1, hk, Nat.max_self, decide_eq_true_eq, decide_eq_false_iff_not, ne_eq, not_true_eq_false, not_false_eq_true, Decidable.not_not, beq_iff_eq, beq_eq_false_iff_ne, bne_eq_false_iff_eq, bne_iff_ne, qsgn_zero, qsgn_le, qsgn_lt, qsgn_gt, qsgn_ge, Nat.reduceAdd, Nat.reduceSub, Nat.reduceMul, Int.reduceAdd, Int.reduceSub, Int.reduceToNat]
                and_intros
                all_goals first | with_reducible rfl | omega | assumption | exact .inl rfl | exact id | (grind)
              · rw [show decide (A ≤ B) = false from decide_eq_false (by grind)]
                refine At.ok (fuel := 60) (hs := [false, true, true, true, true, false]) S29_ok Tryz.func18 (by kernel_rfl) ?_
                simp (maxSteps := 10000000) only [Tryz.f18, go_sem, hd, hn, hA, hB, h1, hk, Nat.max_self, decide_eq_true_eq, decide_eq_false_iff_not, ne_eq, not_true_eq_false, not_false_eq_true, Decidable.not_not, beq_iff_eq, beq_eq_false_iff_ne, bne_eq_false_iff_eq, bne_iff_ne, qsgn_zero, qsgn_le, qsgn_lt, qsgn_gt, qsgn_ge, Nat.reduceAdd, Nat.reduceSub, Nat.reduceMul, Int.reduceAdd, Int.reduceSub, Int.reduceToNat]
                and_intros
                all_goals first | with_reducible rfl | omega | assumption | exact .inl rfl | exact id | (grind)
            | false =>
              simp only [Bool.false_eq_true, if_false]
              by_cases h2 : B - t < 0
              · rw [mn_put h2]
                by_cases hk : A - B ≤ 0
                · rw [show decide (A ≤ B) = true from decide_eq_true (by grind)]
                  refine At.ok (fuel := 60) (hs := [false, true, true, true, true, true, true]) S29_ok Tryz.func18 (by kernel_rfl) ?_
                  simp (maxSteps := 10000000) only [Tryz.f18, go_sem, hd, hn, hA, hB, h1, h2, hk, Nat.max_self, decide_eq_true_eq, decide_eq_false_iff_not, ne_eq, not_true_eq_false, not_false_eq_true, Decidable.not_not, beq_iff_eq, beq_eq_false_iff_ne, bne_eq_false_iff_eq, bne_iff_ne, qsgn_zero, qsgn_le, qsgn_lt, qsgn_gt, qsgn_ge, Nat.reduceAdd, Nat.reduceSub, Nat.reduceMul, Int.reduceAdd, Int.reduceSub, Int.reduceToNat]
                  and_intros
                  all_goals first | with_reducible rfl | omega | assumption | exact .inl rfl | exact id | (grind)
                · rw [show decide (A ≤ B) = false from decide_eq_false (by grind)]
                  refine At.ok (fuel := 60) (hs := [false, true, true, true, true, true, false]) S29_ok Tryz.func18 (by kernel_rfl) ?_
                  simp (maxSteps := 10000000) only [Tryz.f18, go_sem, hd, hn, hA, hB, h1, h2, hk, Nat.max_self, decide_eq_true_eq, decide_eq_false_iff_not, ne_eq, not_true_eq_false, not_false_eq_true, Decidable.not_not, beq_iff_eq, beq_eq_false_iff_ne, bne_eq_false_iff_eq, bne_iff_ne, qsgn_zero, qsgn_le, qsgn_lt, qsgn_gt, qsgn_ge, Nat.reduceAdd, Nat.reduceSub, Nat.reduceMul, Int.reduceAdd, Int.reduceSub, Int.reduceToNat]
                  and_intros
                  all_goals first | with_reducible rfl | omega | assumption | exact .inl rfl | exact id | (grind)
              · rw [mn_let h2]
                by_cases hk : A - t ≤ 0
                · rw [show decide (A ≤ t) = true from decide_eq_true (by grind)]
                  refine At.ok (fuel := 60) (hs := [false, true, true, true, true, false, true]) S29_ok Tryz.func18 (by kernel_rfl) ?_
                  simp (maxSteps := 10000000) only [Tryz.f18, go_sem, hd, hn, hA, hB, h1, h2, hk, Nat.max_self, decide_eq_true_eq, decide_eq_false_iff_not, ne_eq, not_true_eq_false, not_false_eq_true, Decidable.not_not, beq_iff_eq, beq_eq_false_iff_ne, bne_eq_false_iff_eq, bne_iff_ne, qsgn_zero, qsgn_le, qsgn_lt, qsgn_gt, qsgn_ge, Nat.reduceAdd, Nat.reduceSub, Nat.reduceMul, Int.reduceAdd, Int.reduceSub, Int.reduceToNat]
                  and_intros
                  all_goals first | with_reducible rfl | omega | assumption | exact .inl rfl | exact id | (grind)
                · rw [show decide (A ≤ t) = false from decide_eq_false (by grind)]
                  refine At.ok (fuel := 60) (hs := [false, true, true, true, true, false, false]) S29_ok Tryz.func18 (by kernel_rfl) ?_
                  simp (maxSteps := 10000000) only [Tryz.f18, go_sem, hd, hn, hA, hB, h1, h2, hk, Nat.max_self, decide_eq_true_eq, decide_eq_false_iff_not, ne_eq, not_true_eq_false, not_false_eq_true, Decidable.not_not, beq_iff_eq, beq_eq_false_iff_ne, bne_eq_false_iff_eq, bne_iff_ne, qsgn_zero, qsgn_le, qsgn_lt, qsgn_gt, qsgn_ge, Nat.reduceAdd, Nat.reduceSub, Nat.reduceMul, Int.reduceAdd, Int.reduceSub, Int.reduceToNat]
                  and_intros
                  all_goals first | with_reducible rfl | omega | assumption | exact .inl rfl | exact id | (grind)
          · rw [mx_let h1]
            cases op with
            | true =>
              simp only [if_true]
              by_cases hk : f - B ≤ 0
              · rw [show decide (f ≤ B) = true from decide_eq_true (by grind)]
                refine At.ok (fuel := 60) (hs := [false, true, true, true, false, true]) S29_ok Tryz.func18 (by kernel_rfl) ?_
                simp (maxSteps := 10000000) only [Tryz.f18, go_sem, hd, hn, hA, hB, h1, hk, Nat.max_self, decide_eq_true_eq, decide_eq_false_iff_not, ne_eq, not_true_eq_false, not_false_eq_true, Decidable.not_not, beq_iff_eq, beq_eq_false_iff_ne, bne_eq_false_iff_eq, bne_iff_ne, qsgn_zero, qsgn_le, qsgn_lt, qsgn_gt, qsgn_ge, Nat.reduceAdd, Nat.reduceSub, Nat.reduceMul, Int.reduceAdd, Int.reduceSub, Int.reduceToNat]
                and_intros
                all_goals first | with_reducible rfl | omega | assumption | exact .inl rfl | exact id | (grind)
              · rw [show decide (f ≤ B) = false from decide_eq_false (by grind)]
                refine At.ok (fuel := 60) (hs := [false, true, true, true, false, false]) S29_ok Tryz.func18 (by kernel_rfl) ?_
                simp (maxSteps := 10000000) only [Tryz.f18, go_sem, hd, hn, hA, hB, h1, hk, Nat.max_self, decide_eq_true_eq, decide_eq_false_iff_not, ne_eq, not_true_eq_false, not_false_eq_true, Decidable.not_not, beq_iff_eq, beq_eq_false_iff_ne, bne_eq_false_iff_eq, bne_iff_ne, qsgn_zero, qsgn_le, qsgn_lt, qsgn_gt, qsgn_ge, Nat.reduceAdd, Nat.reduceSub, Nat.reduceMul, Int.reduceAdd, Int.reduceSub, Int.reduceToNat]
                and_intros
                all_goals first | with_reducible rfl | omega | assumption | exact .inl rfl | exact id | (grind)
            | false =>
              simp only [Bool.false_eq_true, if_false]
              by_cases h2 : B - t < 0
              · rw [mn_put h2]
                by_cases hk : f - B ≤ 0
                · rw [show decide (f ≤ B) = true from decide_eq_true (by grind)]
                  refine At.ok (fuel := 60) (hs := [false, true, true, true, false, true, true]) S29_ok Tryz.func18 (by kernel_rfl) ?_
                  simp (maxSteps := 10000000) only [Tryz.f18, go_sem, hd, hn, hA, hB, h1, h2, hk, Nat.max_self, decide_eq_true_eq, decide_eq_false_iff_not, ne_eq, not_true_eq_false, not_false_eq_true, Decidable.not_not, beq_iff_eq, beq_eq_false_iff_ne, bne_eq_false_iff_eq, bne_iff_ne, qsgn_zero, qsgn_le, qsgn_lt, qsgn_gt, qsgn_ge, Nat.reduceAdd, Nat.reduceSub, Nat.reduceMul, Int.reduceAdd, Int.reduceSub, Int.reduceToNat]
                  and_intros
                  all_goals first | with_reducible rfl | omega | assumption | exact .inl rfl | exact id | (grind)
                · rw [show decide (f ≤ B) = false from decide_eq_false (by grind)]
                  refine At.ok (fuel := 60) (hs := [false, true, true, true, false, true, false]) S29_ok Tryz.func18 (by kernel_rfl) ?_
                  simp (maxSteps := 10000000) only [Tryz.f18, go_sem, hd, hn, hA, hB, h1, h2, hk, Nat.max_self, decide_eq_true_eq, decide_eq_false_iff_not, ne_eq, not_true_eq_false, not_false_eq_true, Decidable.not_not, beq_iff_eq, beq_eq_false_iff_ne, bne_eq_false_iff_eq, bne_iff_ne, qsgn_zero, qsgn_le, qsgn_lt, qsgn_gt, qsgn_ge, Nat.reduceAdd, Nat.reduceSub, Nat.reduceMul, Int.reduceAdd, Int.reduceSub, Int.reduceToNat]
                  and_intros
                  all_goals first | with_reducible rfl | omega | assumption | exact .inl rfl | exact id | (grind)
              · rw [mn_let h2]
                by_cases hk : f - t ≤ 0
                · rw [show decide (f ≤ t) = true from decide_eq_true (by grind)]
                  refine At.ok (fuel := 60) (hs := [false, true, true, true, false, false, true]) S29_ok Tryz.func18 (by kernel_rfl) ?_
                  simp (maxSteps := 10000000) only [Tryz.f18, go_sem, hd, hn, hA, hB, h1, h2, hk, Nat.max_self, decide_eq_true_eq, decide_eq_false_iff_not, ne_eq, not_true_eq_false, not_false_eq_true, Decidable.not_not, beq_iff_eq, beq_eq_false_iff_ne, bne_eq_false_iff_eq, bne_iff_ne, qsgn_zero, qsgn_le, qsgn_lt, qsgn_gt, qsgn_ge, Nat.reduceAdd, Nat.reduceSub, Nat.reduceMul, Int.reduceAdd, Int.reduceSub, Int.reduceToNat]
                  and_intros
                  all_goals first | with_reducible rfl | omega | assumption | exact .inl rfl | exact id | (grind)
                · rw [show decide (f ≤ t) = false from decide_eq_false (by grind)]
                  refine At.ok (fuel := 60) (hs := [false, true, true, true, false, false, false]) S29_ok Tryz.func18 (by kernel_rfl) ?_
                  simp (maxSteps := 10000000) only [Tryz.f18, go_sem, hd, hn, hA, hB, h1, h2, hk, Nat.max_self, decide_eq_true_eq, decide_eq_false_iff_not, ne_eq, not_true_eq_false, not_false_eq_true, Decidable.not_not, beq_iff_eq, beq_eq_false_iff_ne, bne_eq_false_iff_eq, bne_iff_ne, qsgn_zero, qsgn_le, qsgn_lt, qsgn_gt, qsgn_ge, Nat.reduceAdd, Nat.reduceSub, Nat.reduceMul, Int.reduceAdd, Int.reduceSub, Int.reduceToNat]
                  and_intros
                  all_goals first | with_reducible rfl | omega | assumption | exact .inl rfl | exact id | (grind)
        · have hen : enA o d lo hi = (lo - o) / d := if_pos (by grind)
          have hex : exA o d lo hi = (hi - o) / d := if_pos (by grind)
          rw [nF_move hd, nT_move hd, nK_move hd, hen, hex]
          clear hen hex
          obtain ⟨A, hA⟩ : ∃ A, (lo - o) / d = A := ⟨_, rfl⟩
          obtain ⟨B, hB⟩ : ∃ B, (hi - o) / d = B := ⟨_, rfl⟩
          rw [hA, hB]
          by_cases h1 : A - f > 0
          · rw [mx_put h1]
            cases op with
            | true =>
              simp only [if_true]
              by_cases hk : A - B ≤ 0
              · rw [show decide (A ≤ B) = true from decide_eq_true (by grind)]
                refine At.ok (fuel := 60) (hs := [false, false, true, true, true, true]) S29_ok Tryz.func18 (by kernel_rfl) ?_
                simp (maxSteps := 10000000) only [Tryz.f18, go_sem, hd, hn, hA, hB, h1, hk, Nat.max_self, decide_eq_true_eq, decide_eq_false_iff_not, ne_eq, not_true_eq_false, not_false_eq_true, Decidable.not_not, beq_iff_eq, beq_eq_false_iff_ne, bne_eq_false_iff_eq, bne_iff_ne, qsgn_zero, qsgn_le, qsgn_lt, qsgn_gt, qsgn_ge, Nat.reduceAdd, Nat.reduceSub, Nat.reduceMul, Int.reduceAdd, Int.reduceSub, Int.reduceToNat]
                and_intros
                all_goals first | with_reducible rfl | omega | assumption | exact .inl rfl | exact id | (grind)
              · rw [show decide (A ≤ B) = false from decide_eq_false (by grind)]
                refine At.ok (fuel := 60) (hs := [false, false, true, true, true, false]) S29_ok Tryz.func18 (by kernel_rfl) ?_
                simp (maxSteps := 10000000) only [Tryz.f18, go_sem, hd, hn, hA, hB, h1, hk, Nat.max_self, decide_eq_true_eq, decide_eq_false_iff_not, ne_eq, not_true_eq_false, not_false_eq_true, Decidable.not_not, beq_iff_eq, beq_eq_false_iff_ne, bne_eq_false_iff_eq, bne_iff_ne, qsgn_zero, qsgn_le, qsgn_lt, qsgn_gt, qsgn_ge, Nat.reduceAdd, Nat.reduceSub, Nat.reduceMul, Int.reduceAdd, Int.reduceSub, Int.reduceToNat]
                and_intros
                all_goals first | with_reducible rfl | omega | assumption | exact .inl rfl | exact id | (grind)
            | false =>
              simp only [Bool.false_eq_true, if_false]
              by_cases h2 : B - t < 0
              · rw [mn_put h2]
                by_cases hk : A - B ≤ 0
                · rw [show decide (A ≤ B) = true from decide_eq_true (by grind)]
                  refine At.ok (fuel := 60) (hs := [false, false, true, true, true, true, true]) S29_ok Tryz.func18 (by kernel_rfl) ?_
                  simp (maxSteps := 10000000) only [Tryz.f18, go_sem, hd, hn, hA, hB, h1, h2, hk, Nat.max_self, decide_eq_true_eq, decide_eq_false_iff_not, ne_eq, not_true_eq_false, not_false_eq_true, Decidable.not_not, beq_iff_eq, beq_eq_false_iff_ne, bne_eq_false_iff_eq, bne_iff_ne, qsgn_zero, qsgn_le, qsgn_lt, qsgn_gt, qsgn_ge, Nat.reduceAdd, Nat.reduceSub, Nat.reduceMul, Int.reduceAdd, Int.reduceSub, Int.reduceToNat]
                  and_intros
                  all_goals first | with_reducible rfl | omega | assumption | exact .inl rfl | exact id | (grind)
                · rw [show decide (A ≤ B) = false from decide_eq_false (by grind)]
                  refine At.ok (fuel := 60) (hs := [false, false, true, true, true, true, false]) S29_ok Tryz.func18 (by kernel_rfl) ?_
                  simp (maxSteps := 10000000) only [Tryz.f18, go_sem, hd, hn, hA, hB, h1, h2, hk, Nat.max_self, decide_eq_true_eq, decide_eq_false_iff_not, ne_eq, not_true_eq_false, not_false_eq_true, Decidable.not_not, beq_iff_eq, beq_eq_false_iff_ne, bne_eq_false_iff_eq, bne_iff_ne, qsgn_zero, qsgn_le, qsgn_lt, qsgn_gt, qsgn_ge, Nat.reduceAdd, Nat.reduceSub, Nat.reduceMul, Int.reduceAdd, Int.reduceSub, Int.reduceToNat]
                  and_intros
                  all_goals first | with_reducible rfl | omega | assumption | exact .inl rfl | exact id | (grind)
              · rw [mn_let h2]
                by_cases hk : A - t ≤ 0
                · rw [show decide (A ≤ t) = true from decide_eq_true (by grind)]
                  refine At.ok (fuel := 60) (hs := [false, false, true, true, true, false, true]) S29_ok Tryz.func18 (by kernel_rfl) ?_
                  simp (maxSteps := 10000000) only [Tryz.f18, go_sem, hd, hn, hA, hB, h1, h2, hk, Nat.max_self, decide_eq_true_eq, decide_eq_false_iff_not, ne_eq, not_true_eq_false, not_false_eq_true, Decidable.not_not, beq_iff_eq, beq_eq_false_iff_ne, bne_eq_false_iff_eq, bne_iff_ne, qsgn_zero, qsgn_le, qsgn_lt, qsgn_gt, qsgn_ge, Nat.reduceAdd, Nat.reduceSub, Nat.reduceMul, Int.reduceAdd, Int.reduceSub, Int.reduceToNat]
                  and_intros
                  all_goals first | with_reducible rfl | omega | assumption | exact .inl rfl | exact id | (grind)
                · rw [show decide (A ≤ t) = false from decide_eq_false (by grind)]
                  refine At.ok (fuel := 60) (hs := [false, false, true, true, true, false, false]) S29_ok Tryz.func18 (by kernel_rfl) ?_
                  simp (maxSteps := 10000000) only [Tryz.f18, go_sem, hd, hn, hA, hB, h1, h2, hk, Nat.max_self, decide_eq_true_eq, decide_eq_false_iff_not, ne_eq, not_true_eq_false, not_false_eq_true, Decidable.not_not, beq_iff_eq, beq_eq_false_iff_ne, bne_eq_false_iff_eq, bne_iff_ne, qsgn_zero, qsgn_le, qsgn_lt, qsgn_gt, qsgn_ge, Nat.reduceAdd, Nat.reduceSub, Nat.reduceMul, Int.reduceAdd, Int.reduceSub, Int.reduceToNat]
                  and_intros
                  all_goals first | with_reducible rfl | omega | assumption | exact .inl rfl | exact id | (grind)
          · rw [mx_let h1]
            cases op with
            | true =>
              simp only [if_true]
              by_cases hk : f - B ≤ 0
              · rw [show decide (f ≤ B) = true from decide_eq_true (by grind)]
                refine At.ok (fuel := 60) (hs := [false, false, true, true, false, true]) S29_ok Tryz.func18 (by kernel_rfl) ?_
                simp (maxSteps := 10000000) only [Tryz.f18, go_sem, hd, hn, hA, hB, h1, hk, Nat.max_self, decide_eq_true_eq, decide_eq_false_iff_not, ne_eq, not_true_eq_false, not_false_eq_true, Decidable.not_not, beq_iff_eq, beq_eq_false_iff_ne, bne_eq_false_iff_eq, bne_iff_ne, qsgn_zero, qsgn_le, qsgn_lt, qsgn_gt, qsgn_ge, Nat.reduceAdd, Nat.reduceSub, Nat.reduceMul, Int.reduceAdd, Int.reduceSub, Int.reduceToNat]
                and_intros
                all_goals first | with_reducible rfl | omega | assumption | exact .inl rfl | exact id | (grind)
              · rw [show decide (f ≤ B) = false from decide_eq_false (by grind)]
                refine At.ok (fuel := 60) (hs := [false, false, true, true, false, false]) S29_ok Tryz.func18 (by kernel_rfl) ?_
                simp (maxSteps := 10000000) only [Tryz.f18, go_sem, hd, hn, hA, hB, h1, hk, Nat.max_self, decide_eq_true_eq, decide_eq_false_iff_not, ne_eq, not_true_eq_false, not_false_eq_true, Decidable.not_not, beq_iff_eq, beq_eq_false_iff_ne, bne_eq_false_iff_eq, bne_iff_ne, qsgn_zero, qsgn_le, qsgn_lt, qsgn_gt, qsgn_ge, Nat.reduceAdd, Nat.reduceSub, Nat.reduceMul, Int.reduceAdd, Int.reduceSub, Int.reduceToNat]
                and_intros
                all_goals first | with_reducible rfl | omega | assumption | exact .inl rfl | exact id | (grind)
            | false =>
              simp only [Bool.false_eq_true, if_false]
              by_cases h2 : B - t < 0
              · rw [mn_put h2]
                by_cases hk : f - B ≤ 0
                · rw [show decide (f ≤ B) = true from decide_eq_true (by grind)]
                  refine At.ok (fuel := 60) (hs := [false, false, true, true, false, true, true]) S29_ok Tryz.func18 (by kernel_rfl) ?_
                  simp (maxSteps := 10000000) only [Tryz.f18, go_sem, hd, hn, hA, hB, h1, h2, hk, Nat.max_self, decide_eq_true_eq, decide_eq_false_iff_not, ne_eq, not_true_eq_false, not_false_eq_true, Decidable.not_not, beq_iff_eq, beq_eq_false_iff_ne, bne_eq_false_iff_eq, bne_iff_ne, qsgn_zero, qsgn_le, qsgn_lt, qsgn_gt, qsgn_ge, Nat.reduceAdd, Nat.reduceSub, Nat.reduceMul, Int.reduceAdd, Int.reduceSub, Int.reduceToNat]
                  and_intros
                  all_goals first | with_reducible rfl | omega | assumption | exact .inl rfl | exact id | (grind)
                · rw [show decide (f ≤ B) = false from decide_eq_false (by grind)]
                  refine At.ok (fuel := 60) (hs := [false, false, true, true, false, true, false]) S29_ok Tryz.func18 (by kernel_rfl) ?_
                  simp (maxSteps := 10000000) only [Tryz.f18, go_sem, hd, hn, hA, hB, h1, h2, hk, Nat.max_self, decide_eq_true_eq, decide_eq_false_iff_not, ne_eq, not_true_eq_false, not_false_eq_true, Decidable.not_not, beq_iff_eq, beq_eq_false_iff_ne, bne_eq_false_iff_eq, bne_iff_ne, qsgn_zero, qsgn_le, qsgn_lt, qsgn_gt, qsgn_ge, Nat.reduceAdd, Nat.reduceSub, Nat.reduceMul, Int.reduceAdd, Int.reduceSub, Int.reduceToNat]
                  and_intros
                  all_goals first | with_reducible rfl | omega | assumption | exact .inl rfl | exact id | (grind)
              · rw [mn_let h2]
                by_cases hk : f - t ≤ 0
                · rw [show decide (f ≤ t) = true from decide_eq_true (by grind)]
                  refine At.ok (fuel := 60) (hs := [false, false, true, true, false, false, true]) S29_ok Tryz.func18 (by kernel_rfl) ?_
                  simp (maxSteps := 10000000) only [Tryz.f18, go_sem, hd, hn, hA, hB, h1, h2, hk, Nat.max_self, decide_eq_true_eq, decide_eq_false_iff_not, ne_eq, not_true_eq_false, not_false_eq_true, Decidable.not_not, beq_iff_eq, beq_eq_false_iff_ne, bne_eq_false_iff_eq, bne_iff_ne, qsgn_zero, qsgn_le, qsgn_lt, qsgn_gt, qsgn_ge, Nat.reduceAdd, Nat.reduceSub, Nat.reduceMul, Int.reduceAdd, Int.reduceSub, Int.reduceToNat]
                  and_intros
                  all_goals first | with_reducible rfl | omega | assumption | exact .inl rfl | exact id | (grind)
                · rw [show decide (f ≤ t) = false from decide_eq_false (by grind)]
                  refine At.ok (fuel := 60) (hs := [false, false, true, true, false, false, false]) S29_ok Tryz.func18 (by kernel_rfl) ?_
                  simp (maxSteps := 10000000) only [Tryz.f18, go_sem, hd, hn, hA, hB, h1, h2, hk, Nat.max_self, decide_eq_true_eq, decide_eq_false_iff_not, ne_eq, not_true_eq_false, not_false_eq_true, Decidable.not_not, beq_iff_eq, beq_eq_false_iff_ne, bne_eq_false_iff_eq, bne_iff_ne, qsgn_zero, qsgn_le, qsgn_lt, qsgn_gt, qsgn_ge, Nat.reduceAdd, Nat.reduceSub, Nat.reduceMul, Int.reduceAdd, Int.reduceSub, Int.reduceToNat]
                  and_intros
                  all_goals first | with_reducible rfl | omega | assumption | exact .inl rfl | exact id | (grind)
    · cases h
  · cases h)
@[go_sem] def S2a : List Spec := sNarrow :: S29
theorem S2a_ok : AllOk Tryz.prog S2a := ⟨sNarrow_ok, S29_ok⟩
end Go.Proofs.YtbobhhnhlgdkiaaGreat.Sy

/- package boxes, by runs 2. -/
namespace Go.Proofs.YtbobhhnhlgdkiaaGreat.Sy
open Go Go.RowKit M Kahn
set_option maxRecDepth 1000000
set_option linter.unusedSimpArgs false
set_option linter.unusedVariables false

@[go_sem] def sBHolds : Spec := spN 9 fun l => match l with
  | [([a1, a2, a3, a4, a5, a6], K), ([p1, p2, p3], L)] => some (⟨.inl (.held (.inr (.inl (.bool (inB ((a1, a2, a3), (a4, a5, a6)) (p1, p2, p3))))))⟩, 1 ≤ K ∧ 1 ≤ L ∧ 2 * K + L + 1 ≤ 1073741824)
  | _ => none
set_option maxHeartbeats 16000000 in
theorem sBHolds_ok : SpecOk Tryz.prog sBHolds := SpecOk.mk' Tryz.func9 (by kernel_rfl) (by kernel_rfl) (spN_at fun l r p h hp => by
  split at h
  · rename_i a1 a2 a3 a4 a5 a6 K p1 p2 p3 L
    cases h
    have i0 : ((0 : Int) : Rat) / ((1 : Int) : Rat) = 0 := by decide +kernel
    have i1 : ((1 : Int) : Rat) / ((1 : Int) : Rat) = 1 := by decide +kernel
    have i2 : ((2 : Int) : Rat) / ((1 : Int) : Rat) = 2 := by decide +kernel
    have im : ((-1 : Int) : Rat) / ((1 : Int) : Rat) = -1 := by decide +kernel
    have w1 : IntKind.i64.wrap 1 = 1 := by decide
    have w2 : IntKind.i64.wrap 2 = 2 := by decide
    have w3 : IntKind.i64.wrap 3 = 3 := by decide
    have hi : inB ((a1, a2, a3), (a4, a5, a6)) (p1, p2, p3) = (btw p1 a1 a4 && btw p2 a2 a5 && btw p3 a3 a6) := rfl
    cases g1 : btw p1 a1 a4 with
    | false =>
      rw [hi]
      simp only [w1, w2, w3, g1, Bool.true_and, Bool.false_and, Bool.and_false]
      refine At.ok (fuel := 60) (hs := [true, false]) S2a_ok Tryz.func9 (by kernel_rfl) ?_
      simp (maxSteps := 10000000) only [Tryz.f9, go_sem, w1, w2, w3, g1, i0, i1, i2, im, decide_eq_true_eq, decide_eq_false_iff_not, ne_eq, not_true_eq_false, not_false_eq_true, Decidable.not_not, beq_iff_eq, beq_eq_false_iff_ne, bne_eq_false_iff_eq, bne_iff_ne, qsgn_zero, qsgn_le, qsgn_lt, qsgn_gt, qsgn_ge, Nat.reduceAdd, Nat.reduceSub, Nat.reduceMul, Int.reduceAdd, Int.reduceSub, Int.reduceToNat]
      and_intros
      all_goals first | with_reducible rfl | omega | assumption | exact .inl rfl | exact id | (grind)
    | true =>
      cases g2 : btw p2 a2 a5 with
      | false =>
        rw [hi]
        simp only [w1, w2, w3, g1, g2, Bool.true_and, Bool.false_and, Bool.and_false]
        refine At.ok (fuel := 60) (hs := [true, true, true, false]) S2a_ok Tryz.func9 (by kernel_rfl) ?_
        simp (maxSteps := 10000000) only [Tryz.f9, go_sem, w1, w2, w3, g1, g2, i0, i1, i2, im, decide_eq_true_eq, decide_eq_false_iff_not, ne_eq, not_true_eq_false, not_false_eq_true, Decidable.not_not, beq_iff_eq, beq_eq_false_iff_ne, bne_eq_false_iff_eq, bne_iff_ne, qsgn_zero, qsgn_le, qsgn_lt, qsgn_gt, qsgn_ge, Nat.reduceAdd, Nat.reduceSub, Nat.reduceMul, Int.reduceAdd, Int.reduceSub, Int.reduceToNat]
        and_intros
        all_goals first | with_reducible rfl | omega | assumption | exact .inl rfl | exact id | (grind)
      | true =>
        cases g3 : btw p3 a3 a6 with
        | false =>
          rw [hi]
          simp only [w1, w2, w3, g1, g2, g3, Bool.true_and, Bool.false_and, Bool.and_false]
          refine At.ok (fuel := 60) (hs := [true, true, true, true, true, false]) S2a_ok Tryz.func9 (by kernel_rfl) ?_
          simp (maxSteps := 10000000) only [Tryz.f9, go_sem, w1, w2, w3, g1, g2, g3, i0, i1, i2, im, decide_eq_true_eq, decide_eq_false_iff_not, ne_eq, not_true_eq_false, not_false_eq_true, Decidable.not_not, beq_iff_eq, beq_eq_false_iff_ne, bne_eq_false_iff_eq, bne_iff_ne, qsgn_zero, qsgn_le, qsgn_lt, qsgn_gt, qsgn_ge, Nat.reduceAdd, Nat.reduceSub, Nat.reduceMul, Int.reduceAdd, Int.reduceSub, Int.reduceToNat]
          and_intros
          all_goals first | with_reducible rfl | omega | assumption | exact .inl rfl | exact id | (grind)
        | true =>
          rw [hi]
          simp only [w1, w2, w3, g1, g2, g3, Bool.true_and, Bool.and_true]
          refine At.ok (fuel := 60) (hs := [true, true, true, true, true, true, false]) S2a_ok Tryz.func9 (by kernel_rfl) ?_
          simp (maxSteps := 10000000) only [Tryz.f9, go_sem, w1, w2, w3, g1, g2, g3, i0, i1, i2, im, decide_eq_true_eq, decide_eq_false_iff_not, ne_eq, not_true_eq_false, not_false_eq_true, Decidable.not_not, beq_iff_eq, beq_eq_false_iff_ne, bne_eq_false_iff_eq, bne_iff_ne, qsgn_zero, qsgn_le, qsgn_lt, qsgn_gt, qsgn_ge, Nat.reduceAdd, Nat.reduceSub, Nat.reduceMul, Int.reduceAdd, Int.reduceSub, Int.reduceToNat]
          and_intros
          all_goals first | with_reducible rfl | omega | assumption | exact .inl rfl | exact id | (grind)
  · cases h)
@[go_sem] def sBClip : Spec := spN 5 fun l => match l with
  | [([o1, o2, o3], K), ([d1, d2, d3], L), ([b1, b2, b3, b4, b5, b6], M)] => some (⟨.inr [.agg [.held (.inl (clFrom (o1, o2, o3) (d1, d2, d3) ((b1, b2, b3), (b4, b5, b6)), (K + L + M + 2), true)), .held (.inl (clTo (o1, o2, o3) (d1, d2, d3) ((b1, b2, b3), (b4, b5, b6)), (K + L + M + 2), true)), .held (.inr (.inl (.bool (clOk (o1, o2, o3) (d1, d2, d3) ((b1, b2, b3), (b4, b5, b6)) && still (d1, d2, d3)))))], .held (.inr (.inl (.bool (clOk (o1, o2, o3) (d1, d2, d3) ((b1, b2, b3), (b4, b5, b6))))))]⟩, 1 ≤ K ∧ 1 ≤ L ∧ 1 ≤ M ∧ 16 * (K + L + M) + 16 ≤ 1073741824)
  | _ => none
set_option maxHeartbeats 16000000 in
theorem sBClip_ok : SpecOk Tryz.prog sBClip := SpecOk.mk' Tryz.func5 (by kernel_rfl) (by kernel_rfl) (spN_at fun l r p h hp => by
  split at h
  · rename_i o1 o2 o3 K d1 d2 d3 L b1 b2 b3 b4 b5 b6 M
    cases h
    have i0 : ((0 : Int) : Rat) / ((1 : Int) : Rat) = 0 := by decide +kernel
    have i1 : ((1 : Int) : Rat) / ((1 : Int) : Rat) = 1 := by decide +kernel
    have i2 : ((2 : Int) : Rat) / ((1 : Int) : Rat) = 2 := by decide +kernel
    have im : ((-1 : Int) : Rat) / ((1 : Int) : Rat) = -1 := by decide +kernel
    have w1 : IntKind.i64.wrap 1 = 1 := by decide
    have w2 : IntKind.i64.wrap 2 = 2 := by decide
    have w3 : IntKind.i64.wrap 3 = 3 := by decide
    cases g1 : nK (0) (0) (true) o1 d1 b1 b4 with
    | false =>
      obtain ⟨e1, e2, e3⟩ := clip_no1 o1 o2 o3 d1 d2 d3 b1 b2 b3 b4 b5 b6  g1
      rw [e1, e2, e3, Bool.false_and]
      clear e1 e2 e3
      refine At.ok (fuel := 60) (hs := [true, false]) S2a_ok Tryz.func5 (by kernel_rfl) ?_
      simp (maxSteps := 10000000) only [Tryz.f5, go_sem, w1, w2, w3, g1, Nat.max_self, i0, i1, i2, im, decide_eq_true_eq, decide_eq_false_iff_not, ne_eq, not_true_eq_false, not_false_eq_true, Decidable.not_not, beq_iff_eq, beq_eq_false_iff_ne, bne_eq_false_iff_eq, bne_iff_ne, qsgn_zero, qsgn_le, qsgn_lt, qsgn_gt, qsgn_ge, Nat.reduceAdd, Nat.reduceSub, Nat.reduceMul, Int.reduceAdd, Int.reduceSub, Int.reduceToNat]
      and_intros
      all_goals first | with_reducible rfl | omega | assumption | exact .inl rfl | exact id | (grind)
    | true =>
      cases g2 : nK (nF (0) o1 d1 b1 b4) (nT (0) (true) o1 d1 b1 b4) (nO (true) d1) o2 d2 b2 b5 with
      | false =>
        obtain ⟨e1, e2, e3⟩ := clip_no2 o1 o2 o3 d1 d2 d3 b1 b2 b3 b4 b5 b6  g1 g2
        rw [e1, e2, e3, Bool.false_and]
        clear e1 e2 e3
        refine At.ok (fuel := 60) (hs := [true, true, true, false]) S2a_ok Tryz.func5 (by kernel_rfl) ?_
        simp (maxSteps := 10000000) only [Tryz.f5, go_sem, w1, w2, w3, g1, g2, Nat.max_self, i0, i1, i2, im, decide_eq_true_eq, decide_eq_false_iff_not, ne_eq, not_true_eq_false, not_false_eq_true, Decidable.not_not, beq_iff_eq, beq_eq_false_iff_ne, bne_eq_false_iff_eq, bne_iff_ne, qsgn_zero, qsgn_le, qsgn_lt, qsgn_gt, qsgn_ge, Nat.reduceAdd, Nat.reduceSub, Nat.reduceMul, Int.reduceAdd, Int.reduceSub, Int.reduceToNat]
        and_intros
        all_goals first | with_reducible rfl | omega | assumption | exact .inl rfl | exact id | (grind)
      | true =>
        cases g3 : nK (nF (nF (0) o1 d1 b1 b4) o2 d2 b2 b5) (nT (nT (0) (true) o1 d1 b1 b4) (nO (true) d1) o2 d2 b2 b5) (nO (nO (true) d1) d2) o3 d3 b3 b6 with
        | false =>
          obtain ⟨e1, e2, e3⟩ := clip_no3 o1 o2 o3 d1 d2 d3 b1 b2 b3 b4 b5 b6  g1 g2 g3
          rw [e1, e2, e3, Bool.false_and]
          clear e1 e2 e3
          refine At.ok (fuel := 60) (hs := [true, true, true, true, true, false]) S2a_ok Tryz.func5 (by kernel_rfl) ?_
          simp (maxSteps := 10000000) only [Tryz.f5, go_sem, w1, w2, w3, g1, g2, g3, Nat.max_self, i0, i1, i2, im, decide_eq_true_eq, decide_eq_false_iff_not, ne_eq, not_true_eq_false, not_false_eq_true, Decidable.not_not, beq_iff_eq, beq_eq_false_iff_ne, bne_eq_false_iff_eq, bne_iff_ne, qsgn_zero, qsgn_le, qsgn_lt, qsgn_gt, qsgn_ge, Nat.reduceAdd, Nat.reduceSub, Nat.reduceMul, Int.reduceAdd, Int.reduceSub, Int.reduceToNat]
          and_intros
          all_goals first | with_reducible rfl | omega | assumption | exact .inl rfl | exact id | (grind)
        | true =>
          obtain ⟨e1, e2, e3⟩ := clip_all o1 o2 o3 d1 d2 d3 b1 b2 b3 b4 b5 b6  g1 g2 g3
          rw [e1, e2, e3, Bool.true_and, ← still_is]
          clear e1 e2 e3
          refine At.ok (fuel := 60) (hs := [true, true, true, true, true, true, false]) S2a_ok Tryz.func5 (by kernel_rfl) ?_
          simp (maxSteps := 10000000) only [Tryz.f5, go_sem, w1, w2, w3, g1, g2, g3, Nat.max_self, i0, i1, i2, im, decide_eq_true_eq, decide_eq_false_iff_not, ne_eq, not_true_eq_false, not_false_eq_true, Decidable.not_not, beq_iff_eq, beq_eq_false_iff_ne, bne_eq_false_iff_eq, bne_iff_ne, qsgn_zero, qsgn_le, qsgn_lt, qsgn_gt, qsgn_ge, Nat.reduceAdd, Nat.reduceSub, Nat.reduceMul, Int.reduceAdd, Int.reduceSub, Int.reduceToNat]
          and_intros
          all_goals first | with_reducible rfl | omega | assumption | exact .inl rfl | exact id | (grind)
  · cases h)
@[go_sem] def S2b : List Spec := sBHolds :: sBClip :: S2a
theorem S2b_ok : AllOk Tryz.prog S2b := ⟨sBHolds_ok, sBClip_ok, S2a_ok⟩
end Go.Proofs.YtbobhhnhlgdkiaaGreat.Sy

/- penumbralaw10.fixed: true. -/
namespace Go.Proofs.YtbobhhnhlgdkiaaGreat.Sy
open Go Go.RowKit M Kahn
set_option maxRecDepth 1000000
set_option linter.unusedSimpArgs false
set_option linter.unusedVariables false

@[go_sem] def sCube : Spec := ⟨24, fun xs => match xs with
  | [] => some (⟨.inl (cn [0, 0, 0, 1, 1, 1] (2))⟩, True)
  | _ => none, nomem⟩
set_option maxHeartbeats 16000000 in
theorem sCube_ok : SpecOk Tryz.prog sCube := SpecOk.mk' Tryz.func24 (by kernel_rfl) (by kernel_rfl) (fun xs r p h hp => by
  simp only [sCube] at h
  split at h
  · cases h
    have i0 : ((0 : Int) : Rat) / ((1 : Int) : Rat) = 0 := by decide +kernel
    have i1 : ((1 : Int) : Rat) / ((1 : Int) : Rat) = 1 := by decide +kernel
    have i2 : ((2 : Int) : Rat) / ((1 : Int) : Rat) = 2 := by decide +kernel
    have im : ((-1 : Int) : Rat) / ((1 : Int) : Rat) = -1 := by decide +kernel
    refine At.ok (fuel := 60) (hs := []) S2b_ok Tryz.func24 (by kernel_rfl) ?_
    simp (maxSteps := 10000000) only [Tryz.f24, go_sem, i0, i1, i2, im, decide_eq_true_eq, decide_eq_false_iff_not, ne_eq, not_true_eq_false, not_false_eq_true, Decidable.not_not, beq_iff_eq, beq_eq_false_iff_ne, bne_eq_false_iff_eq, bne_iff_ne, qsgn_zero, qsgn_le, qsgn_lt, qsgn_gt, qsgn_ge, Nat.reduceAdd, Nat.reduceSub, Nat.reduceMul, Int.reduceAdd, Int.reduceSub, Int.reduceToNat]
    and_intros
    all_goals first | with_reducible rfl | omega | assumption | exact .inl rfl | exact id | (grind)
  · cases h)
@[go_sem] def S2c : List Spec := sCube :: S2b
theorem S2c_ok : AllOk Tryz.prog S2c := ⟨sCube_ok, S2b_ok⟩
@[go_sem] def sFixed10 : Spec := ⟨7, fun xs => match xs with
  | [] => some (⟨.inl (.held (.inr (.inl (.bool (true)))))⟩, True)
  | _ => none, nomem⟩
set_option maxHeartbeats 16000000 in
theorem sFixed10_ok : SpecOk Tryz.prog sFixed10 := SpecOk.mk' Tryz.func7 (by kernel_rfl) (by kernel_rfl) (fun xs r p h hp => by
  simp only [sFixed10] at h
  split at h
  · cases h
    have i0 : ((0 : Int) : Rat) / ((1 : Int) : Rat) = 0 := by decide +kernel
    have i1 : ((1 : Int) : Rat) / ((1 : Int) : Rat) = 1 := by decide +kernel
    have i2 : ((2 : Int) : Rat) / ((1 : Int) : Rat) = 2 := by decide +kernel
    have im : ((-1 : Int) : Rat) / ((1 : Int) : Rat) = -1 := by decide +kernel
    have h12 : ((1 : Int) : Rat) / ((2 : Int) : Rat) = 1 / 2 := by decide +kernel
    have c1 : clOk (-1, 1 / 2, 1 / 2) (2, 0, 0) ((0, 0, 0), (1, 1, 1)) = true := by decide +kernel
    have c2 : clFrom (-1, 1 / 2, 1 / 2) (2, 0, 0) ((0, 0, 0), (1, 1, 1)) = 1 / 2 := by decide +kernel
    have c3 : clTo (-1, 1 / 2, 1 / 2) (2, 0, 0) ((0, 0, 0), (1, 1, 1)) = 1 := by decide +kernel
    have c4 : still (2, 0, 0) = false := by decide +kernel
    have c5 : clOk (1 / 2, 1 / 2, 1 / 2) (0, 0, 0) ((0, 0, 0), (1, 1, 1)) = true := by decide +kernel
    have c6 : still (0, 0, 0) = true := by decide +kernel
    have c7 : clOk (2, 0, 0) (1, 0, 0) ((0, 0, 0), (1, 1, 1)) = false := by decide +kernel
    have c8 : inB ((0, 0, 0), (1, 1, 1)) (1, 0, 1) = true := by decide +kernel
    refine At.ok (fuel := 100) (hs := [true, true, false, true, true, true, true]) S2c_ok Tryz.func7 (by kernel_rfl) ?_
    simp (maxSteps := 10000000) only [Tryz.f7, go_sem, h12, c1, c2, c3, c4, c5, c6, c7, c8, rowG, rowGE, jns, List.map_nil, Bool.true_and, Bool.false_and, Bool.and_false, i0, i1, i2, im, decide_eq_true_eq, decide_eq_false_iff_not, ne_eq, not_true_eq_false, not_false_eq_true, Decidable.not_not, beq_iff_eq, beq_eq_false_iff_ne, bne_eq_false_iff_eq, bne_iff_ne, qsgn_zero, qsgn_le, qsgn_lt, qsgn_gt, qsgn_ge, Nat.reduceAdd, Nat.reduceSub, Nat.reduceMul, Int.reduceAdd, Int.reduceSub, Int.reduceToNat]
    and_intros
    all_goals first | with_reducible rfl | omega | (decide +kernel)
  · cases h)
@[go_sem] def S2d : List Spec := sFixed10 :: S2c
theorem S2d_ok : AllOk Tryz.prog S2d := ⟨sFixed10_ok, S2c_ok⟩
end Go.Proofs.YtbobhhnhlgdkiaaGreat.Sy
