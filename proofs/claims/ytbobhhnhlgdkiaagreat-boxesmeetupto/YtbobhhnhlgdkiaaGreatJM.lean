/- Lengths and directions, by runs 2. -/
import Derived.Test.YtbobhhnhlgdkiaaGreatJL
import Derived.Test.YtbobhhnhlgdkiaaGreatJq
namespace Go.Proofs.YtbobhhnhlgdkiaaGreat.Sy
open Go Go.RowKit M Kahn
set_option maxRecDepth 1000000
set_option linter.unusedSimpArgs false
set_option linter.unusedVariables false

@[go_sem] def S2 : List Spec := sVCross :: S1
theorem S2_ok : AllOk Tryz.prog S2 := ⟨sVCross_ok, S1_ok⟩
@[go_sem] def s5Null : Spec := spN 15 fun l => match l with
  | [([a1, a2, a3], K)] => some (⟨.inl (.held (.inr (.inl (.bool (decide (a1 = 0 ∧ a2 = 0 ∧ a3 = 0))))))⟩, 1 ≤ K ∧ K ≤ 17179869184)
  | _ => none
set_option maxHeartbeats 8000000 in
theorem s5Null_ok : SpecOk Tryz.prog s5Null := SpecOk.mk' Tryz.func15 (by kernel_rfl) (by kernel_rfl) (spN_at fun l r p h hp => by
  split at h
  · rename_i a1 a2 a3 K
    cases h
    cases hd : decide (a1 = 0 ∧ a2 = 0 ∧ a3 = 0) with
    | true =>
      refine At.ok (fuel := 60) (hs := [true]) S2_ok Tryz.func15 (by kernel_rfl) ?_
      simp only [Tryz.f15, go_sem, Nat.reduceAdd, Nat.reduceSub, Nat.reduceMul, Int.reduceAdd, Int.reduceSub, Int.reduceToNat, hd]
      omega
    | false =>
      refine At.ok (fuel := 60) (hs := [false]) S2_ok Tryz.func15 (by kernel_rfl) ?_
      simp only [Tryz.f15, go_sem, Nat.reduceAdd, Nat.reduceSub, Nat.reduceMul, Int.reduceAdd, Int.reduceSub, Int.reduceToNat, hd]
      omega
  · cases h)
@[go_sem] def S3 : List Spec := s5Null :: S2
theorem S3_ok : AllOk Tryz.prog S3 := ⟨s5Null_ok, S2_ok⟩
end Go.Proofs.YtbobhhnhlgdkiaaGreat.Sy

/- Package frame, and penumbraref06, by runs 2. -/
namespace Go.Proofs.YtbobhhnhlgdkiaaGreat.Sy
open Go Go.RowKit M Kahn
set_option maxRecDepth 1000000
set_option linter.unusedSimpArgs false
set_option linter.unusedVariables false

/-- Three directions of length 1 that stand at right angles: by rows, and by columns. -/
structure Orth (e11 e12 e13 e21 e22 e23 e31 e32 e33 : Rat) : Prop where
  r11 : e11 * e11 + e12 * e12 + e13 * e13 = 1
  r12 : e11 * e21 + e12 * e22 + e13 * e23 = 0
  r13 : e11 * e31 + e12 * e32 + e13 * e33 = 0
  r21 : e21 * e11 + e22 * e12 + e23 * e13 = 0
  r22 : e21 * e21 + e22 * e22 + e23 * e23 = 1
  r23 : e21 * e31 + e22 * e32 + e23 * e33 = 0
  r31 : e31 * e11 + e32 * e12 + e33 * e13 = 0
  r32 : e31 * e21 + e32 * e22 + e33 * e23 = 0
  r33 : e31 * e31 + e32 * e32 + e33 * e33 = 1
  c11 : e11 * e11 + e21 * e21 + e31 * e31 = 1
  c12 : e11 * e12 + e21 * e22 + e31 * e32 = 0
  c13 : e11 * e13 + e21 * e23 + e31 * e33 = 0
  c21 : e12 * e11 + e22 * e21 + e32 * e31 = 0
  c22 : e12 * e12 + e22 * e22 + e32 * e32 = 1
  c23 : e12 * e13 + e22 * e23 + e32 * e33 = 0
  c31 : e13 * e11 + e23 * e21 + e33 * e31 = 0
  c32 : e13 * e12 + e23 * e22 + e33 * e32 = 0
  c33 : e13 * e13 + e23 * e23 + e33 * e33 = 1
end Go.Proofs.YtbobhhnhlgdkiaaGreat.Sy

/- Package frame, and penumbraref06, by runs 2: what calls the others. -/
namespace Go.Proofs.YtbobhhnhlgdkiaaGreat.Sy
open Go Go.RowKit M Kahn
set_option maxRecDepth 1000000
set_option linter.unusedSimpArgs false
set_option linter.unusedVariables false

end Go.Proofs.YtbobhhnhlgdkiaaGreat.Sy
