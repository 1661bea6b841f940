/- penumbraref08, by runs. -/
import Derived.Test.YtmoicmjljflcgaaJE
namespace Go.Proofs.Ytmoicmjljflcgaa.Sym
open Go Go.RowKit M Kahn
set_option maxRecDepth 1000000
set_option linter.unusedSimpArgs false
set_option linter.unusedVariables false

@[go_sem] def s8Is : Spec := spC 27 fun l => match l with
  | [([a1, a2, a3], K), ([b1, b2, b3], L)] => some (⟨.inl ⟨some (.inl (.bool (decide (a1 = b1 ∧ a2 = b2 ∧ a3 = b3))))⟩⟩, K ≤ 1099511627776 ∧ L ≤ 1099511627776)
  | _ => none
set_option maxHeartbeats 16000000 in
theorem s8Is_ok : SpecOk Try.prog s8Is := SpecOk.mk' Try.func27 (by kernel_rfl) (by kernel_rfl) (spC_at fun l r p h hp => by
  split at h
  · rename_i a1 a2 a3 K b1 b2 b3 L
    cases h
    by_cases h0 : a1 = b1
    rotate_left
    · rw [show decide (a1 = b1 ∧ a2 = b2 ∧ a3 = b3) = false from by simp only [eq_false h0, and_false, false_and, true_and]; rfl]
      refine At.ok (fuel := 60) (hs := [false]) S15_ok Try.func27 (by kernel_rfl) ?_
      simp (maxSteps := 10000000) only [Try.f27, go_sem, decide_eq_true_eq, decide_eq_false_iff_not, ne_eq, not_true_eq_false, not_false_eq_true, Decidable.not_not, beq_iff_eq, beq_eq_false_iff_ne, bne_eq_false_iff_eq, bne_iff_ne, qsgn_zero, qsgn_le, qsgn_lt, qsgn_gt, eq_false h0, and_false, false_and, true_and, Nat.reduceAdd, Nat.reduceSub, Nat.reduceMul, Int.reduceAdd, Int.reduceSub, Int.reduceToNat]
      and_intros
      all_goals first | with_reducible rfl | omega | (trivial)
    by_cases h1 : a2 = b2
    rotate_left
    · rw [show decide (a1 = b1 ∧ a2 = b2 ∧ a3 = b3) = false from by simp only [eq_false h1, eq_true h0, and_false, false_and, true_and]; rfl]
      refine At.ok (fuel := 60) (hs := [true, false]) S15_ok Try.func27 (by kernel_rfl) ?_
      simp (maxSteps := 10000000) only [Try.f27, go_sem, decide_eq_true_eq, decide_eq_false_iff_not, ne_eq, not_true_eq_false, not_false_eq_true, Decidable.not_not, beq_iff_eq, beq_eq_false_iff_ne, bne_eq_false_iff_eq, bne_iff_ne, qsgn_zero, qsgn_le, qsgn_lt, qsgn_gt, eq_false h1, eq_true h0, and_false, false_and, true_and, Nat.reduceAdd, Nat.reduceSub, Nat.reduceMul, Int.reduceAdd, Int.reduceSub, Int.reduceToNat]
      and_intros
      all_goals first | with_reducible rfl | omega | (trivial)
    by_cases h2 : a3 = b3
    · rw [show decide (a1 = b1 ∧ a2 = b2 ∧ a3 = b3) = true from by simp only [eq_true h0, eq_true h1, eq_true h2, and_true]; rfl]
      refine At.ok (fuel := 60) (hs := [true, true, true]) S15_ok Try.func27 (by kernel_rfl) ?_
      simp (maxSteps := 10000000) only [Try.f27, go_sem, decide_eq_true_eq, decide_eq_false_iff_not, ne_eq, not_true_eq_false, not_false_eq_true, Decidable.not_not, beq_iff_eq, beq_eq_false_iff_ne, bne_eq_false_iff_eq, bne_iff_ne, qsgn_zero, qsgn_le, qsgn_lt, qsgn_gt, eq_true h0, eq_true h1, eq_true h2, and_true, Nat.reduceAdd, Nat.reduceSub, Nat.reduceMul, Int.reduceAdd, Int.reduceSub, Int.reduceToNat]
      and_intros
      all_goals first | with_reducible rfl | omega | (trivial)
    · rw [show decide (a1 = b1 ∧ a2 = b2 ∧ a3 = b3) = false from by simp only [eq_false h2, eq_true h0, eq_true h1, and_false, false_and, true_and]; rfl]
      refine At.ok (fuel := 60) (hs := [true, true, false]) S15_ok Try.func27 (by kernel_rfl) ?_
      simp (maxSteps := 10000000) only [Try.f27, go_sem, decide_eq_true_eq, decide_eq_false_iff_not, ne_eq, not_true_eq_false, not_false_eq_true, Decidable.not_not, beq_iff_eq, beq_eq_false_iff_ne, bne_eq_false_iff_eq, bne_iff_ne, qsgn_zero, qsgn_le, qsgn_lt, qsgn_gt, eq_false h2, eq_true h0, eq_true h1, and_false, false_and, true_and, Nat.reduceAdd, Nat.reduceSub, Nat.reduceMul, Int.reduceAdd, Int.reduceSub, Int.reduceToNat]
      and_intros
      all_goals first | with_reducible rfl | omega | (trivial)
  · cases h)
@[go_sem] def S16 : List Spec := s8Is :: S15
theorem S16_ok : AllOk Try.prog S16 := ⟨s8Is_ok, S15_ok⟩
end Go.Proofs.Ytmoicmjljflcgaa.Sym

/- penumbralaw08.fixed: true. -/
namespace Go.Proofs.Ytmoicmjljflcgaa.Sym
open Go Go.RowKit M Kahn
set_option maxRecDepth 1000000
set_option linter.unusedSimpArgs false
set_option linter.unusedVariables false

@[go_sem] def sUnit8 : Spec := ⟨42, fun xs => match xs with
  | [] => some (⟨.inl (cn [0, 0, 0, 1, 0, 0, 0, 1, 0] (2))⟩, True)
  | _ => none⟩
set_option maxHeartbeats 8000000 in
theorem sUnit8_ok : SpecOk Try.prog sUnit8 := SpecOk.mk' Try.func42 (by kernel_rfl) (by kernel_rfl) (fun xs r p h hp => by
  simp only [sUnit8] at h
  split at h
  · cases h
    have i0 : ((0 : Int) : Rat) / ((1 : Int) : Rat) = 0 := by decide +kernel
    have i1 : ((1 : Int) : Rat) / ((1 : Int) : Rat) = 1 := by decide +kernel
    have i2 : ((-2 : Int) : Rat) / ((1 : Int) : Rat) = -2 := by decide +kernel
    have i3 : ((3 : Int) : Rat) / ((1 : Int) : Rat) = 3 := by decide +kernel
    have im : ((-1 : Int) : Rat) / ((1 : Int) : Rat) = -1 := by decide +kernel
    have iq : ((1 : Int) : Rat) / ((4 : Int) : Rat) = 1 / 4 := by decide +kernel
    refine At.ok (fuel := 100) (hs := []) S16_ok Try.func42 (by kernel_rfl) ?_
    simp (maxSteps := 10000000) only [Try.f42, go_sem, decide_eq_true_eq, decide_eq_false_iff_not, ne_eq, not_true_eq_false, not_false_eq_true, Decidable.not_not, beq_iff_eq, beq_eq_false_iff_ne, bne_eq_false_iff_eq, bne_iff_ne, qsgn_zero, qsgn_le, qsgn_lt, qsgn_gt, qsgn_ge, eq_self, decide_true, decide_false, and_self, i0, i1, i2, i3, im, iq, Nat.reduceAdd, Nat.reduceSub, Nat.reduceMul, Int.reduceAdd, Int.reduceSub, Int.reduceToNat]
    and_intros
    all_goals first | with_reducible rfl | assumption | omega | decide | (grind)
  · cases h)
@[go_sem] def S18 : List Spec := sUnit8 :: S16
theorem S18_ok : AllOk Try.prog S18 := ⟨sUnit8_ok, S16_ok⟩
@[go_sem] def sFixed8 : Spec := ⟨14, fun xs => match xs with
  | [] => some (⟨.inl ⟨some (.inl (.bool true))⟩⟩, True)
  | _ => none⟩
set_option maxHeartbeats 16000000 in
theorem sFixed8_ok : SpecOk Try.prog sFixed8 := SpecOk.mk' Try.func14 (by kernel_rfl) (by kernel_rfl) (fun xs r p h hp => by
  simp only [sFixed8] at h
  split at h
  · cases h
    have i0 : ((0 : Int) : Rat) / ((1 : Int) : Rat) = 0 := by decide +kernel
    have i1 : ((1 : Int) : Rat) / ((1 : Int) : Rat) = 1 := by decide +kernel
    have i2 : ((-2 : Int) : Rat) / ((1 : Int) : Rat) = -2 := by decide +kernel
    have i3 : ((3 : Int) : Rat) / ((1 : Int) : Rat) = 3 := by decide +kernel
    have im : ((-1 : Int) : Rat) / ((1 : Int) : Rat) = -1 := by decide +kernel
    have iq : ((1 : Int) : Rat) / ((4 : Int) : Rat) = 1 / 4 := by decide +kernel
    refine At.ok (fuel := 100) (hs := [true, false, false, true, true, true, true, true, true]) S18_ok Try.func14 (by kernel_rfl) ?_
    simp (maxSteps := 10000000) only [Try.f14, go_sem, decide_eq_true_eq, decide_eq_false_iff_not, ne_eq, not_true_eq_false, not_false_eq_true, Decidable.not_not, beq_iff_eq, beq_eq_false_iff_ne, bne_eq_false_iff_eq, bne_iff_ne, qsgn_zero, qsgn_le, qsgn_lt, qsgn_gt, qsgn_ge, eq_self, decide_true, decide_false, and_self, i0, i1, i2, i3, im, iq, Nat.reduceAdd, Nat.reduceSub, Nat.reduceMul, Int.reduceAdd, Int.reduceSub, Int.reduceToNat]
    and_intros
    all_goals first | with_reducible rfl | assumption | omega | decide | (decide +kernel)
  · cases h)
@[go_sem] def S19 : List Spec := sFixed8 :: S18
theorem S19_ok : AllOk Try.prog S19 := ⟨sFixed8_ok, S18_ok⟩
end Go.Proofs.Ytmoicmjljflcgaa.Sym
