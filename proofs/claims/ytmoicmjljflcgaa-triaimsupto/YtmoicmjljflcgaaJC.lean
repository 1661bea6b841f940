/- Package affine, by runs. -/
import Derived.Test.YtmoicmjljflcgaaJz
namespace Go.Proofs.Ytmoicmjljflcgaa.Sym
open Go Go.RowKit M Kahn
set_option maxRecDepth 1000000
set_option linter.unusedSimpArgs false
set_option linter.unusedVariables false

/-- A number of an inverse. -/
def iv (D x i : Rat) : Rat := if D = 0 then i else 1 / D * x
@[go_sem] def sATurn : Spec := spN 26 fun l => match l with
  | [([a11, a12, a13, a21, a22, a23, a31, a32, a33, a41, a42, a43], K), ([d1, d2, d3], L)] => some (⟨.inl (cn [a11 * d1 + a12 * d2 + a13 * d3, a21 * d1 + a22 * d2 + a23 * d3, a31 * d1 + a32 * d2 + a33 * d3] (3 * (K + L) + 2))⟩, 1 ≤ K ∧ 1 ≤ L ∧ 8 * max K L + 8 ≤ 1073741824)
  | _ => none
set_option maxHeartbeats 8000000 in
theorem sATurn_ok : SpecOk Try.prog sATurn := SpecOk.mk' Try.func26 (by kernel_rfl) (by kernel_rfl) (spN_at fun l r p h hp => by
  split at h
  · rename_i a11 a12 a13 a21 a22 a23 a31 a32 a33 a41 a42 a43 K d1 d2 d3 L
    cases h
    have i0 : ((0 : Int) : Rat) / ((1 : Int) : Rat) = 0 := by decide +kernel
    have i1 : ((1 : Int) : Rat) / ((1 : Int) : Rat) = 1 := by decide +kernel
    refine At.ok (fuel := 60) (hs := []) S3_ok Try.func26 (by kernel_rfl) ?_
    simp only [Try.f26, go_sem, i0, i1, Nat.reduceAdd, Nat.reduceSub, Nat.reduceMul, Int.reduceAdd, Int.reduceSub, Int.reduceToNat]
    and_intros
    all_goals first | with_reducible rfl | omega | (grind)
  · cases h)
@[go_sem] def sADet : Spec := spN 24 fun l => match l with
  | [([a11, a12, a13, a21, a22, a23, a31, a32, a33, a41, a42, a43], K)] => some (⟨.inl (cn [a11 * (a22 * a33 - a23 * a32) + a12 * (a23 * a31 - a21 * a33) + a13 * (a21 * a32 - a22 * a31)] (15 * K + 5))⟩, 1 ≤ K ∧ 32 * K + 32 ≤ 1073741824)
  | _ => none
set_option maxHeartbeats 8000000 in
theorem sADet_ok : SpecOk Try.prog sADet := SpecOk.mk' Try.func24 (by kernel_rfl) (by kernel_rfl) (spN_at fun l r p h hp => by
  split at h
  · rename_i a11 a12 a13 a21 a22 a23 a31 a32 a33 a41 a42 a43 K
    cases h
    have i0 : ((0 : Int) : Rat) / ((1 : Int) : Rat) = 0 := by decide +kernel
    have i1 : ((1 : Int) : Rat) / ((1 : Int) : Rat) = 1 := by decide +kernel
    refine At.ok (fuel := 60) (hs := []) S3_ok Try.func24 (by kernel_rfl) ?_
    simp only [Try.f24, go_sem, i0, i1, Nat.reduceAdd, Nat.reduceSub, Nat.reduceMul, Int.reduceAdd, Int.reduceSub, Int.reduceToNat]
    and_intros
    all_goals first | with_reducible rfl | omega | (grind)
  · cases h)
@[go_sem] def S6 : List Spec := sATurn :: sADet :: S3
theorem S6_ok : AllOk Try.prog S6 := ⟨sATurn_ok, sADet_ok, S3_ok⟩
@[go_sem] def sAApply : Spec := spN 25 fun l => match l with
  | [([a11, a12, a13, a21, a22, a23, a31, a32, a33, a41, a42, a43], K), ([d1, d2, d3], L)] => some (⟨.inl (cn [a11 * d1 + a12 * d2 + a13 * d3 + a41, a21 * d1 + a22 * d2 + a23 * d3 + a42, a31 * d1 + a32 * d2 + a33 * d3 + a43] (6 * (K + L) + 7))⟩, 1 ≤ K ∧ 1 ≤ L ∧ 8 * max K L + 8 ≤ 1073741824)
  | _ => none
set_option maxHeartbeats 8000000 in
theorem sAApply_ok : SpecOk Try.prog sAApply := SpecOk.mk' Try.func25 (by kernel_rfl) (by kernel_rfl) (spN_at fun l r p h hp => by
  split at h
  · rename_i a11 a12 a13 a21 a22 a23 a31 a32 a33 a41 a42 a43 K d1 d2 d3 L
    cases h
    have i0 : ((0 : Int) : Rat) / ((1 : Int) : Rat) = 0 := by decide +kernel
    have i1 : ((1 : Int) : Rat) / ((1 : Int) : Rat) = 1 := by decide +kernel
    refine At.ok (fuel := 60) (hs := []) S6_ok Try.func25 (by kernel_rfl) ?_
    simp only [Try.f25, go_sem, i0, i1, Nat.reduceAdd, Nat.reduceSub, Nat.reduceMul, Int.reduceAdd, Int.reduceSub, Int.reduceToNat]
    and_intros
    all_goals first | with_reducible rfl | omega | (grind)
  · cases h)
@[go_sem] def S7 : List Spec := sAApply :: S6
theorem S7_ok : AllOk Try.prog S7 := ⟨sAApply_ok, S6_ok⟩
end Go.Proofs.Ytmoicmjljflcgaa.Sym
