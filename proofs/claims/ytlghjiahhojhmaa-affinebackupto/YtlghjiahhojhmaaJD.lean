/- penumbraref07, by runs. -/
import Derived.Test.YtlghjiahhojhmaaJC
namespace Go.Proofs.Ytlghjiahhojhmaa.Sym
open Go Go.RowKit M Kahn
set_option maxRecDepth 1000000
set_option linter.unusedSimpArgs false
set_option linter.unusedVariables false

@[go_sem] def s7Identity : Spec := ⟨16, fun xs => match xs with
  | [] => some (⟨.inl (cn [1, 0, 0, 0, 1, 0, 0, 0, 1, 0, 0, 0] (2))⟩, True)
  | _ => none⟩
set_option maxHeartbeats 8000000 in
theorem s7Identity_ok : SpecOk Try.prog s7Identity := SpecOk.mk' Try.func16 (by kernel_rfl) (by kernel_rfl) (fun xs r p h hp => by
  simp only [s7Identity] at h
  split at h
  · cases h
    have i0 : ((0 : Int) : Rat) / ((1 : Int) : Rat) = 0 := by decide +kernel
    have i1 : ((1 : Int) : Rat) / ((1 : Int) : Rat) = 1 := by decide +kernel
    refine At.ok (fuel := 60) (hs := []) S8_ok Try.func16 (by kernel_rfl) ?_
    simp only [Try.f16, go_sem, i0, i1, Nat.reduceAdd, Nat.reduceSub, Nat.reduceMul, Int.reduceAdd, Int.reduceSub, Int.reduceToNat]
    and_intros
    all_goals first | with_reducible rfl | omega | (grind)
  · cases h)
@[go_sem] def s7Is : Spec := spC 15 fun l => match l with
  | [([a11, a12, a13, a21, a22, a23, a31, a32, a33, a41, a42, a43], K), ([b11, b12, b13, b21, b22, b23, b31, b32, b33, b41, b42, b43], L)] => some (⟨.inl ⟨some (.inl (.bool (decide ((a11 = b11 ∧ a12 = b12 ∧ a13 = b13) ∧ (a21 = b21 ∧ a22 = b22 ∧ a23 = b23) ∧ (a31 = b31 ∧ a32 = b32 ∧ a33 = b33) ∧ (a41 = b41 ∧ a42 = b42 ∧ a43 = b43)))))⟩⟩, K ≤ 1099511627776 ∧ L ≤ 1099511627776)
  | _ => none
set_option maxHeartbeats 8000000 in
theorem s7Is_ok : SpecOk Try.prog s7Is := SpecOk.mk' Try.func15 (by kernel_rfl) (by kernel_rfl) (spC_at fun l r p h hp => by
  split at h
  · rename_i a11 a12 a13 a21 a22 a23 a31 a32 a33 a41 a42 a43 K b11 b12 b13 b21 b22 b23 b31 b32 b33 b41 b42 b43 L
    cases h
    by_cases h0 : a11 = b11 ∧ a12 = b12 ∧ a13 = b13
    rotate_left
    · rw [show decide ((a11 = b11 ∧ a12 = b12 ∧ a13 = b13) ∧ (a21 = b21 ∧ a22 = b22 ∧ a23 = b23) ∧ (a31 = b31 ∧ a32 = b32 ∧ a33 = b33) ∧ (a41 = b41 ∧ a42 = b42 ∧ a43 = b43)) = false from by simp only [eq_false h0, and_false, false_and, true_and]; rfl]
      refine At.ok (fuel := 60) (hs := [false]) S8_ok Try.func15 (by kernel_rfl) ?_
      simp only [Try.f15, go_sem, decide_eq_true_eq, decide_eq_false_iff_not, ne_eq, not_true_eq_false, not_false_eq_true, Decidable.not_not, beq_iff_eq, beq_eq_false_iff_ne, bne_eq_false_iff_eq, bne_iff_ne, qsgn_zero, eq_false h0, and_false, false_and, true_and, Nat.reduceAdd, Nat.reduceSub, Nat.reduceMul, Int.reduceAdd, Int.reduceSub, Int.reduceToNat]
      and_intros
      all_goals first | with_reducible rfl | omega | (trivial)
    by_cases h1 : a21 = b21 ∧ a22 = b22 ∧ a23 = b23
    rotate_left
    · rw [show decide ((a11 = b11 ∧ a12 = b12 ∧ a13 = b13) ∧ (a21 = b21 ∧ a22 = b22 ∧ a23 = b23) ∧ (a31 = b31 ∧ a32 = b32 ∧ a33 = b33) ∧ (a41 = b41 ∧ a42 = b42 ∧ a43 = b43)) = false from by simp only [eq_false h1, eq_true h0, and_false, false_and, true_and]; rfl]
      refine At.ok (fuel := 60) (hs := [true, false]) S8_ok Try.func15 (by kernel_rfl) ?_
      simp only [Try.f15, go_sem, decide_eq_true_eq, decide_eq_false_iff_not, ne_eq, not_true_eq_false, not_false_eq_true, Decidable.not_not, beq_iff_eq, beq_eq_false_iff_ne, bne_eq_false_iff_eq, bne_iff_ne, qsgn_zero, eq_false h1, eq_true h0, and_false, false_and, true_and, Nat.reduceAdd, Nat.reduceSub, Nat.reduceMul, Int.reduceAdd, Int.reduceSub, Int.reduceToNat]
      and_intros
      all_goals first | with_reducible rfl | omega | (trivial)
    by_cases h2 : a31 = b31 ∧ a32 = b32 ∧ a33 = b33
    rotate_left
    · rw [show decide ((a11 = b11 ∧ a12 = b12 ∧ a13 = b13) ∧ (a21 = b21 ∧ a22 = b22 ∧ a23 = b23) ∧ (a31 = b31 ∧ a32 = b32 ∧ a33 = b33) ∧ (a41 = b41 ∧ a42 = b42 ∧ a43 = b43)) = false from by simp only [eq_false h2, eq_true h0, eq_true h1, and_false, false_and, true_and]; rfl]
      refine At.ok (fuel := 60) (hs := [true, true, false]) S8_ok Try.func15 (by kernel_rfl) ?_
      simp only [Try.f15, go_sem, decide_eq_true_eq, decide_eq_false_iff_not, ne_eq, not_true_eq_false, not_false_eq_true, Decidable.not_not, beq_iff_eq, beq_eq_false_iff_ne, bne_eq_false_iff_eq, bne_iff_ne, qsgn_zero, eq_false h2, eq_true h0, eq_true h1, and_false, false_and, true_and, Nat.reduceAdd, Nat.reduceSub, Nat.reduceMul, Int.reduceAdd, Int.reduceSub, Int.reduceToNat]
      and_intros
      all_goals first | with_reducible rfl | omega | (trivial)
    by_cases h3 : a41 = b41 ∧ a42 = b42 ∧ a43 = b43
    · rw [show decide ((a11 = b11 ∧ a12 = b12 ∧ a13 = b13) ∧ (a21 = b21 ∧ a22 = b22 ∧ a23 = b23) ∧ (a31 = b31 ∧ a32 = b32 ∧ a33 = b33) ∧ (a41 = b41 ∧ a42 = b42 ∧ a43 = b43)) = true from by simp only [eq_true h0, eq_true h1, eq_true h2, eq_true h3, and_true]; rfl]
      refine At.ok (fuel := 60) (hs := [true, true, true, true]) S8_ok Try.func15 (by kernel_rfl) ?_
      simp only [Try.f15, go_sem, decide_eq_true_eq, decide_eq_false_iff_not, ne_eq, not_true_eq_false, not_false_eq_true, Decidable.not_not, beq_iff_eq, beq_eq_false_iff_ne, bne_eq_false_iff_eq, bne_iff_ne, qsgn_zero, eq_true h0, eq_true h1, eq_true h2, eq_true h3, and_true, Nat.reduceAdd, Nat.reduceSub, Nat.reduceMul, Int.reduceAdd, Int.reduceSub, Int.reduceToNat]
      and_intros
      all_goals first | with_reducible rfl | omega | (trivial)
    · rw [show decide ((a11 = b11 ∧ a12 = b12 ∧ a13 = b13) ∧ (a21 = b21 ∧ a22 = b22 ∧ a23 = b23) ∧ (a31 = b31 ∧ a32 = b32 ∧ a33 = b33) ∧ (a41 = b41 ∧ a42 = b42 ∧ a43 = b43)) = false from by simp only [eq_false h3, eq_true h0, eq_true h1, eq_true h2, and_false, false_and, true_and]; rfl]
      refine At.ok (fuel := 60) (hs := [true, true, true, false]) S8_ok Try.func15 (by kernel_rfl) ?_
      simp only [Try.f15, go_sem, decide_eq_true_eq, decide_eq_false_iff_not, ne_eq, not_true_eq_false, not_false_eq_true, Decidable.not_not, beq_iff_eq, beq_eq_false_iff_ne, bne_eq_false_iff_eq, bne_iff_ne, qsgn_zero, eq_false h3, eq_true h0, eq_true h1, eq_true h2, and_false, false_and, true_and, Nat.reduceAdd, Nat.reduceSub, Nat.reduceMul, Int.reduceAdd, Int.reduceSub, Int.reduceToNat]
      and_intros
      all_goals first | with_reducible rfl | omega | (trivial)
  · cases h)
@[go_sem] def S9 : List Spec := s7Identity :: s7Is :: S8
theorem S9_ok : AllOk Try.prog S9 := ⟨s7Identity_ok, s7Is_ok, S8_ok⟩
end Go.Proofs.Ytlghjiahhojhmaa.Sym

/- penumbralaw07.fixed: true. -/
namespace Go.Proofs.Ytlghjiahhojhmaa.Sym
open Go Go.RowKit M Kahn
set_option maxRecDepth 1000000
set_option linter.unusedSimpArgs false
set_option linter.unusedVariables false

@[go_sem] def sFixed7 : Spec := ⟨7, fun xs => match xs with
  | [] => some (⟨.inl ⟨some (.inl (.bool true))⟩⟩, True)
  | _ => none⟩
set_option maxHeartbeats 16000000 in
theorem sFixed7_ok : SpecOk Try.prog sFixed7 := SpecOk.mk' Try.func7 (by kernel_rfl) (by kernel_rfl) (fun xs r p h hp => by
  simp only [sFixed7] at h
  split at h
  · cases h
    have i0 : ((0 : Int) : Rat) / ((1 : Int) : Rat) = 0 := by decide +kernel
    have i1 : ((1 : Int) : Rat) / ((1 : Int) : Rat) = 1 := by decide +kernel
    have im : ((-1 : Int) : Rat) / ((1 : Int) : Rat) = -1 := by decide +kernel
    refine At.ok (fuel := 100) (hs := [false, true, true, true, true]) S9_ok Try.func7 (by kernel_rfl) ?_
    simp (maxSteps := 10000000) only [Try.f7, go_sem, decide_eq_true_eq, decide_eq_false_iff_not, ne_eq, not_true_eq_false, not_false_eq_true, Decidable.not_not, beq_iff_eq, beq_eq_false_iff_ne, bne_eq_false_iff_eq, bne_iff_ne, qsgn_zero, eq_self, decide_true, decide_false, and_self, i0, i1, im, Nat.reduceAdd, Nat.reduceSub, Nat.reduceMul, Int.reduceAdd, Int.reduceSub, Int.reduceToNat]
    and_intros
    all_goals first | with_reducible rfl | omega | decide | (decide +kernel)
  · cases h)
@[go_sem] def S12 : List Spec := sFixed7 :: S9
theorem S12_ok : AllOk Try.prog S12 := ⟨sFixed7_ok, S9_ok⟩
end Go.Proofs.Ytlghjiahhojhmaa.Sym
