/- Package affine, by runs. -/
import Derived.Test.YtlghjiahhojhmaaJz
namespace Go.Proofs.Ytlghjiahhojhmaa.Sym
open Go Go.RowKit M Kahn
set_option maxRecDepth 1000000
set_option linter.unusedSimpArgs false
set_option linter.unusedVariables false

/-- A number of an inverse. -/
def iv (D x i : Rat) : Rat := if D = 0 then i else 1 / D * x
theorem iv_no {D : Rat} (h : D = 0) (x i : Rat) : iv D x i = i := if_pos h
theorem iv_yes {D : Rat} (h : ¬ D = 0) : ∃ s, s * D = 1 ∧ 1 / D = s ∧ ∀ x i, iv D x i = s * x :=
  ⟨1 / D, by grind, rfl, fun _ _ => if_neg h⟩
@[go_sem] def sAIdentity : Spec := ⟨32, fun xs => match xs with
  | [] => some (⟨.inl (cn [1, 0, 0, 0, 1, 0, 0, 0, 1, 0, 0, 0] (2))⟩, True)
  | _ => none⟩
set_option maxHeartbeats 8000000 in
theorem sAIdentity_ok : SpecOk Try.prog sAIdentity := SpecOk.mk' Try.func32 (by kernel_rfl) (by kernel_rfl) (fun xs r p h hp => by
  simp only [sAIdentity] at h
  split at h
  · cases h
    have i0 : ((0 : Int) : Rat) / ((1 : Int) : Rat) = 0 := by decide +kernel
    have i1 : ((1 : Int) : Rat) / ((1 : Int) : Rat) = 1 := by decide +kernel
    refine At.ok (fuel := 60) (hs := []) S2_ok Try.func32 (by kernel_rfl) ?_
    simp only [Try.f32, go_sem, i0, i1, Nat.reduceAdd, Nat.reduceSub, Nat.reduceMul, Int.reduceAdd, Int.reduceSub, Int.reduceToNat]
    and_intros
    all_goals first | with_reducible rfl | omega | (grind)
  · cases h)
@[go_sem] def sATurn : Spec := spN 20 fun l => match l with
  | [([a11, a12, a13, a21, a22, a23, a31, a32, a33, a41, a42, a43], K), ([d1, d2, d3], L)] => some (⟨.inl (cn [a11 * d1 + a12 * d2 + a13 * d3, a21 * d1 + a22 * d2 + a23 * d3, a31 * d1 + a32 * d2 + a33 * d3] (3 * (K + L) + 2))⟩, 1 ≤ K ∧ 1 ≤ L ∧ 8 * max K L + 8 ≤ 1073741824)
  | _ => none
set_option maxHeartbeats 8000000 in
theorem sATurn_ok : SpecOk Try.prog sATurn := SpecOk.mk' Try.func20 (by kernel_rfl) (by kernel_rfl) (spN_at fun l r p h hp => by
  split at h
  · rename_i a11 a12 a13 a21 a22 a23 a31 a32 a33 a41 a42 a43 K d1 d2 d3 L
    cases h
    have i0 : ((0 : Int) : Rat) / ((1 : Int) : Rat) = 0 := by decide +kernel
    have i1 : ((1 : Int) : Rat) / ((1 : Int) : Rat) = 1 := by decide +kernel
    refine At.ok (fuel := 60) (hs := []) S2_ok Try.func20 (by kernel_rfl) ?_
    simp only [Try.f20, go_sem, i0, i1, Nat.reduceAdd, Nat.reduceSub, Nat.reduceMul, Int.reduceAdd, Int.reduceSub, Int.reduceToNat]
    and_intros
    all_goals first | with_reducible rfl | omega | (grind)
  · cases h)
@[go_sem] def sAMixed : Spec := spN 29 fun l => match l with
  | [([a11, a12, a13, a21, a22, a23, a31, a32, a33, a41, a42, a43], K), ([d1, d2, d3], L)] => some (⟨.inl (cn [d1 * a11 + d2 * a21 + d3 * a31, d1 * a12 + d2 * a22 + d3 * a32, d1 * a13 + d2 * a23 + d3 * a33] (3 * (K + L) + 4))⟩, 1 ≤ K ∧ 1 ≤ L ∧ 8 * max K L + 8 ≤ 1073741824)
  | _ => none
set_option maxHeartbeats 8000000 in
theorem sAMixed_ok : SpecOk Try.prog sAMixed := SpecOk.mk' Try.func29 (by kernel_rfl) (by kernel_rfl) (spN_at fun l r p h hp => by
  split at h
  · rename_i a11 a12 a13 a21 a22 a23 a31 a32 a33 a41 a42 a43 K d1 d2 d3 L
    cases h
    have i0 : ((0 : Int) : Rat) / ((1 : Int) : Rat) = 0 := by decide +kernel
    have i1 : ((1 : Int) : Rat) / ((1 : Int) : Rat) = 1 := by decide +kernel
    refine At.ok (fuel := 60) (hs := []) S2_ok Try.func29 (by kernel_rfl) ?_
    simp only [Try.f29, go_sem, i0, i1, Nat.reduceAdd, Nat.reduceSub, Nat.reduceMul, Int.reduceAdd, Int.reduceSub, Int.reduceToNat]
    and_intros
    all_goals first | with_reducible rfl | omega | (grind)
  · cases h)
@[go_sem] def sADet : Spec := spN 11 fun l => match l with
  | [([a11, a12, a13, a21, a22, a23, a31, a32, a33, a41, a42, a43], K)] => some (⟨.inl (cn [a11 * (a22 * a33 - a23 * a32) + a12 * (a23 * a31 - a21 * a33) + a13 * (a21 * a32 - a22 * a31)] (15 * K + 5))⟩, 1 ≤ K ∧ 32 * K + 32 ≤ 1073741824)
  | _ => none
set_option maxHeartbeats 8000000 in
theorem sADet_ok : SpecOk Try.prog sADet := SpecOk.mk' Try.func11 (by kernel_rfl) (by kernel_rfl) (spN_at fun l r p h hp => by
  split at h
  · rename_i a11 a12 a13 a21 a22 a23 a31 a32 a33 a41 a42 a43 K
    cases h
    have i0 : ((0 : Int) : Rat) / ((1 : Int) : Rat) = 0 := by decide +kernel
    have i1 : ((1 : Int) : Rat) / ((1 : Int) : Rat) = 1 := by decide +kernel
    refine At.ok (fuel := 60) (hs := []) S2_ok Try.func11 (by kernel_rfl) ?_
    simp only [Try.f11, go_sem, i0, i1, Nat.reduceAdd, Nat.reduceSub, Nat.reduceMul, Int.reduceAdd, Int.reduceSub, Int.reduceToNat]
    and_intros
    all_goals first | with_reducible rfl | omega | (grind)
  · cases h)
@[go_sem] def sACrosses : Spec := spN 39 fun l => match l with
  | [([a11, a12, a13, a21, a22, a23, a31, a32, a33, a41, a42, a43], K)] => some (⟨.inl (mkR [a22 * a33 - a23 * a32, a23 * a31 - a21 * a33, a21 * a32 - a22 * a31, a32 * a13 - a33 * a12, a33 * a11 - a31 * a13, a31 * a12 - a32 * a11, a12 * a23 - a13 * a22, a13 * a21 - a11 * a23, a11 * a22 - a12 * a21, 0, 0, 0] (4 * K + 1))⟩, 1 ≤ K ∧ 8 * K + 8 ≤ 1073741824)
  | _ => none
set_option maxHeartbeats 8000000 in
theorem sACrosses_ok : SpecOk Try.prog sACrosses := SpecOk.mk' Try.func39 (by kernel_rfl) (by kernel_rfl) (spN_at fun l r p h hp => by
  split at h
  · rename_i a11 a12 a13 a21 a22 a23 a31 a32 a33 a41 a42 a43 K
    cases h
    have i0 : ((0 : Int) : Rat) / ((1 : Int) : Rat) = 0 := by decide +kernel
    have i1 : ((1 : Int) : Rat) / ((1 : Int) : Rat) = 1 := by decide +kernel
    refine At.ok (fuel := 60) (hs := []) S2_ok Try.func39 (by kernel_rfl) ?_
    simp only [Try.f39, go_sem, i0, i1, Nat.reduceAdd, Nat.reduceSub, Nat.reduceMul, Int.reduceAdd, Int.reduceSub, Int.reduceToNat]
    and_intros
    all_goals first | with_reducible rfl | omega | (grind)
  · cases h)
@[go_sem] def sAFlipped : Spec := spN 38 fun l => match l with
  | [([a11, a12, a13, a21, a22, a23, a31, a32, a33, a41, a42, a43], K)] => some (⟨.inl (mkR [a11, a21, a31, a12, a22, a32, a13, a23, a33, 0, 0, 0] (K))⟩, 1 ≤ K ∧ 8 * K + 8 ≤ 1073741824)
  | _ => none
set_option maxHeartbeats 8000000 in
theorem sAFlipped_ok : SpecOk Try.prog sAFlipped := SpecOk.mk' Try.func38 (by kernel_rfl) (by kernel_rfl) (spN_at fun l r p h hp => by
  split at h
  · rename_i a11 a12 a13 a21 a22 a23 a31 a32 a33 a41 a42 a43 K
    cases h
    have i0 : ((0 : Int) : Rat) / ((1 : Int) : Rat) = 0 := by decide +kernel
    have i1 : ((1 : Int) : Rat) / ((1 : Int) : Rat) = 1 := by decide +kernel
    refine At.ok (fuel := 60) (hs := []) S2_ok Try.func38 (by kernel_rfl) ?_
    simp only [Try.f38, go_sem, i0, i1, Nat.reduceAdd, Nat.reduceSub, Nat.reduceMul, Int.reduceAdd, Int.reduceSub, Int.reduceToNat]
    and_intros
    all_goals first | with_reducible rfl | omega | (grind)
  · cases h)
@[go_sem] def sAStretch : Spec := spN 25 fun l => match l with
  | [([p1, p2, p3], K), ([n1, n2, n3], L), ([k], M)] => some (⟨.inl (cn [1 + (k - 1) * n1 * n1, 0 + (k - 1) * n1 * n2, 0 + (k - 1) * n1 * n3, 0 + (k - 1) * n2 * n1, 1 + (k - 1) * n2 * n2, 0 + (k - 1) * n2 * n3, 0 + (k - 1) * n3 * n1, 0 + (k - 1) * n3 * n2, 1 + (k - 1) * n3 * n3, -((p1 * n1 + p2 * n2 + p3 * n3) * ((k - 1) * n1)), -((p1 * n1 + p2 * n2 + p3 * n3) * ((k - 1) * n2)), -((p1 * n1 + p2 * n2 + p3 * n3) * ((k - 1) * n3))] (4 * (K + L + M) + 12))⟩, 1 ≤ K ∧ 1 ≤ L ∧ 1 ≤ M ∧ 64 * max K (max L M) + 64 ≤ 1073741824)
  | _ => none
set_option maxHeartbeats 8000000 in
theorem sAStretch_ok : SpecOk Try.prog sAStretch := SpecOk.mk' Try.func25 (by kernel_rfl) (by kernel_rfl) (spN_at fun l r p h hp => by
  split at h
  · rename_i p1 p2 p3 K n1 n2 n3 L k M
    cases h
    have i0 : ((0 : Int) : Rat) / ((1 : Int) : Rat) = 0 := by decide +kernel
    have i1 : ((1 : Int) : Rat) / ((1 : Int) : Rat) = 1 := by decide +kernel
    refine At.ok (fuel := 60) (hs := []) S2_ok Try.func25 (by kernel_rfl) ?_
    simp only [Try.f25, go_sem, i0, i1, Nat.reduceAdd, Nat.reduceSub, Nat.reduceMul, Int.reduceAdd, Int.reduceSub, Int.reduceToNat]
    and_intros
    all_goals first | with_reducible rfl | omega | (grind)
  · cases h)
@[go_sem] def S6 : List Spec := sAIdentity :: sATurn :: sAMixed :: sADet :: sACrosses :: sAFlipped :: sAStretch :: S2
theorem S6_ok : AllOk Try.prog S6 := ⟨sAIdentity_ok, sATurn_ok, sAMixed_ok, sADet_ok, sACrosses_ok, sAFlipped_ok, sAStretch_ok, S2_ok⟩
@[go_sem] def sAApply : Spec := spN 9 fun l => match l with
  | [([a11, a12, a13, a21, a22, a23, a31, a32, a33, a41, a42, a43], K), ([d1, d2, d3], L)] => some (⟨.inl (cn [a11 * d1 + a12 * d2 + a13 * d3 + a41, a21 * d1 + a22 * d2 + a23 * d3 + a42, a31 * d1 + a32 * d2 + a33 * d3 + a43] (6 * (K + L) + 7))⟩, 1 ≤ K ∧ 1 ≤ L ∧ 8 * max K L + 8 ≤ 1073741824)
  | _ => none
set_option maxHeartbeats 8000000 in
theorem sAApply_ok : SpecOk Try.prog sAApply := SpecOk.mk' Try.func9 (by kernel_rfl) (by kernel_rfl) (spN_at fun l r p h hp => by
  split at h
  · rename_i a11 a12 a13 a21 a22 a23 a31 a32 a33 a41 a42 a43 K d1 d2 d3 L
    cases h
    have i0 : ((0 : Int) : Rat) / ((1 : Int) : Rat) = 0 := by decide +kernel
    have i1 : ((1 : Int) : Rat) / ((1 : Int) : Rat) = 1 := by decide +kernel
    refine At.ok (fuel := 60) (hs := []) S6_ok Try.func9 (by kernel_rfl) ?_
    simp only [Try.f9, go_sem, i0, i1, Nat.reduceAdd, Nat.reduceSub, Nat.reduceMul, Int.reduceAdd, Int.reduceSub, Int.reduceToNat]
    and_intros
    all_goals first | with_reducible rfl | omega | (grind)
  · cases h)
@[go_sem] def sAArea : Spec := spN 19 fun l => match l with
  | [([a11, a12, a13, a21, a22, a23, a31, a32, a33, a41, a42, a43], K), ([d1, d2, d3], L)] => some (⟨.inl (cn [(a22 * a33 - a23 * a32) * d1 + (a23 * a31 - a21 * a33) * d2 + (a21 * a32 - a22 * a31) * d3, (a32 * a13 - a33 * a12) * d1 + (a33 * a11 - a31 * a13) * d2 + (a31 * a12 - a32 * a11) * d3, (a12 * a23 - a13 * a22) * d1 + (a13 * a21 - a11 * a23) * d2 + (a11 * a22 - a12 * a21) * d3] (12 * K + 3 * L + 5))⟩, 1 ≤ K ∧ 1 ≤ L ∧ 32 * K + 32 ≤ 1073741824 ∧ 8 * L + 8 ≤ 1073741824)
  | _ => none
set_option maxHeartbeats 8000000 in
theorem sAArea_ok : SpecOk Try.prog sAArea := SpecOk.mk' Try.func19 (by kernel_rfl) (by kernel_rfl) (spN_at fun l r p h hp => by
  split at h
  · rename_i a11 a12 a13 a21 a22 a23 a31 a32 a33 a41 a42 a43 K d1 d2 d3 L
    cases h
    have i0 : ((0 : Int) : Rat) / ((1 : Int) : Rat) = 0 := by decide +kernel
    have i1 : ((1 : Int) : Rat) / ((1 : Int) : Rat) = 1 := by decide +kernel
    refine At.ok (fuel := 60) (hs := []) S6_ok Try.func19 (by kernel_rfl) ?_
    simp only [Try.f19, go_sem, i0, i1, Nat.reduceAdd, Nat.reduceSub, Nat.reduceMul, Int.reduceAdd, Int.reduceSub, Int.reduceToNat]
    and_intros
    all_goals first | with_reducible rfl | omega | (grind)
  · cases h)
@[go_sem] def S7 : List Spec := sAApply :: sAArea :: S6
theorem S7_ok : AllOk Try.prog S7 := ⟨sAApply_ok, sAArea_ok, S6_ok⟩
@[go_sem] def sAThen : Spec := spN 6 fun l => match l with
  | [([a11, a12, a13, a21, a22, a23, a31, a32, a33, a41, a42, a43], K), ([b11, b12, b13, b21, b22, b23, b31, b32, b33, b41, b42, b43], L)] => some (⟨.inl (cn [b11 * a11 + b12 * a21 + b13 * a31, b11 * a12 + b12 * a22 + b13 * a32, b11 * a13 + b12 * a23 + b13 * a33, b21 * a11 + b22 * a21 + b23 * a31, b21 * a12 + b22 * a22 + b23 * a32, b21 * a13 + b22 * a23 + b23 * a33, b31 * a11 + b32 * a21 + b33 * a31, b31 * a12 + b32 * a22 + b33 * a32, b31 * a13 + b32 * a23 + b33 * a33, b11 * a41 + b12 * a42 + b13 * a43 + b41, b21 * a41 + b22 * a42 + b23 * a43 + b42, b31 * a41 + b32 * a42 + b33 * a43 + b43] (6 * (K + L) + 7))⟩, 1 ≤ K ∧ 1 ≤ L ∧ 8 * max K L + 8 ≤ 1073741824)
  | _ => none
set_option maxHeartbeats 8000000 in
theorem sAThen_ok : SpecOk Try.prog sAThen := SpecOk.mk' Try.func6 (by kernel_rfl) (by kernel_rfl) (spN_at fun l r p h hp => by
  split at h
  · rename_i a11 a12 a13 a21 a22 a23 a31 a32 a33 a41 a42 a43 K b11 b12 b13 b21 b22 b23 b31 b32 b33 b41 b42 b43 L
    cases h
    have i0 : ((0 : Int) : Rat) / ((1 : Int) : Rat) = 0 := by decide +kernel
    have i1 : ((1 : Int) : Rat) / ((1 : Int) : Rat) = 1 := by decide +kernel
    refine At.ok (fuel := 60) (hs := []) S7_ok Try.func6 (by kernel_rfl) ?_
    simp only [Try.f6, go_sem, i0, i1, Nat.reduceAdd, Nat.reduceSub, Nat.reduceMul, Int.reduceAdd, Int.reduceSub, Int.reduceToNat]
    and_intros
    all_goals first | with_reducible rfl | omega | (grind)
  · cases h)
@[go_sem] def sAInverse : Spec := spN 13 fun l => match l with
  | [([a11, a12, a13, a21, a22, a23, a31, a32, a33, a41, a42, a43], K)] => some (⟨.inr [cn [iv (a11 * (a22 * a33 - a23 * a32) + a12 * (a23 * a31 - a21 * a33) + a13 * (a21 * a32 - a22 * a31)) (a22 * a33 - a23 * a32) 1, iv (a11 * (a22 * a33 - a23 * a32) + a12 * (a23 * a31 - a21 * a33) + a13 * (a21 * a32 - a22 * a31)) (a32 * a13 - a33 * a12) 0, iv (a11 * (a22 * a33 - a23 * a32) + a12 * (a23 * a31 - a21 * a33) + a13 * (a21 * a32 - a22 * a31)) (a12 * a23 - a13 * a22) 0, iv (a11 * (a22 * a33 - a23 * a32) + a12 * (a23 * a31 - a21 * a33) + a13 * (a21 * a32 - a22 * a31)) (a23 * a31 - a21 * a33) 0, iv (a11 * (a22 * a33 - a23 * a32) + a12 * (a23 * a31 - a21 * a33) + a13 * (a21 * a32 - a22 * a31)) (a33 * a11 - a31 * a13) 1, iv (a11 * (a22 * a33 - a23 * a32) + a12 * (a23 * a31 - a21 * a33) + a13 * (a21 * a32 - a22 * a31)) (a13 * a21 - a11 * a23) 0, iv (a11 * (a22 * a33 - a23 * a32) + a12 * (a23 * a31 - a21 * a33) + a13 * (a21 * a32 - a22 * a31)) (a21 * a32 - a22 * a31) 0, iv (a11 * (a22 * a33 - a23 * a32) + a12 * (a23 * a31 - a21 * a33) + a13 * (a21 * a32 - a22 * a31)) (a31 * a12 - a32 * a11) 0, iv (a11 * (a22 * a33 - a23 * a32) + a12 * (a23 * a31 - a21 * a33) + a13 * (a21 * a32 - a22 * a31)) (a11 * a22 - a12 * a21) 1, iv (a11 * (a22 * a33 - a23 * a32) + a12 * (a23 * a31 - a21 * a33) + a13 * (a21 * a32 - a22 * a31)) (-((a22 * a33 - a23 * a32) * a41 + (a32 * a13 - a33 * a12) * a42 + (a12 * a23 - a13 * a22) * a43)) 0, iv (a11 * (a22 * a33 - a23 * a32) + a12 * (a23 * a31 - a21 * a33) + a13 * (a21 * a32 - a22 * a31)) (-((a23 * a31 - a21 * a33) * a41 + (a33 * a11 - a31 * a13) * a42 + (a13 * a21 - a11 * a23) * a43)) 0, iv (a11 * (a22 * a33 - a23 * a32) + a12 * (a23 * a31 - a21 * a33) + a13 * (a21 * a32 - a22 * a31)) (-((a21 * a32 - a22 * a31) * a41 + (a31 * a12 - a32 * a11) * a42 + (a11 * a22 - a12 * a21) * a43)) 0] (34 * K + 32), ⟨some (.inl (.bool (decide ((a11 * (a22 * a33 - a23 * a32) + a12 * (a23 * a31 - a21 * a33) + a13 * (a21 * a32 - a22 * a31)) ≠ 0))))⟩]⟩, 1 ≤ K ∧ 32 * K + 32 ≤ 1073741824)
  | _ => none
set_option maxHeartbeats 8000000 in
theorem sAInverse_ok : SpecOk Try.prog sAInverse := SpecOk.mk' Try.func13 (by kernel_rfl) (by kernel_rfl) (spN_at fun l r p h hp => by
  split at h
  · rename_i a11 a12 a13 a21 a22 a23 a31 a32 a33 a41 a42 a43 K
    cases h
    have i0 : ((0 : Int) : Rat) / ((1 : Int) : Rat) = 0 := by decide +kernel
    have i1 : ((1 : Int) : Rat) / ((1 : Int) : Rat) = 1 := by decide +kernel
    by_cases hz : a11 * (a22 * a33 - a23 * a32) + a12 * (a23 * a31 - a21 * a33) + a13 * (a21 * a32 - a22 * a31) = 0
    · have y1 := iv_no hz
      rw [show decide ((a11 * (a22 * a33 - a23 * a32) + a12 * (a23 * a31 - a21 * a33) + a13 * (a21 * a32 - a22 * a31)) ≠ 0) = false from by simp [hz]]
      simp only [y1]
      refine At.ok (fuel := 60) (hs := [false]) S7_ok Try.func13 (by kernel_rfl) ?_
      simp only [Try.f13, go_sem, i0, i1, decide_eq_true_eq, decide_eq_false_iff_not, ne_eq, not_true_eq_false, not_false_eq_true, Decidable.not_not, beq_iff_eq, beq_eq_false_iff_ne, bne_eq_false_iff_eq, bne_iff_ne, qsgn_zero, hz, Nat.reduceAdd, Nat.reduceSub, Nat.reduceMul, Int.reduceAdd, Int.reduceSub, Int.reduceToNat]
      and_intros
      all_goals first | with_reducible rfl | omega | (grind)
    · obtain ⟨s, y0, hs, y1⟩ := iv_yes hz
      rw [show decide ((a11 * (a22 * a33 - a23 * a32) + a12 * (a23 * a31 - a21 * a33) + a13 * (a21 * a32 - a22 * a31)) ≠ 0) = true from by simp [hz]]
      simp only [y1]
      clear y1
      refine At.ok (fuel := 60) (hs := [true]) S7_ok Try.func13 (by kernel_rfl) ?_
      simp only [Try.f13, go_sem, i0, i1, decide_eq_true_eq, decide_eq_false_iff_not, ne_eq, not_true_eq_false, not_false_eq_true, Decidable.not_not, beq_iff_eq, beq_eq_false_iff_ne, bne_eq_false_iff_eq, bne_iff_ne, qsgn_zero, hz, hs, Nat.reduceAdd, Nat.reduceSub, Nat.reduceMul, Int.reduceAdd, Int.reduceSub, Int.reduceToNat]
      and_intros
      all_goals first | with_reducible rfl | omega | (grind)
  · cases h)
@[go_sem] def S8 : List Spec := sAThen :: sAInverse :: S7
theorem S8_ok : AllOk Try.prog S8 := ⟨sAThen_ok, sAInverse_ok, S7_ok⟩
end Go.Proofs.Ytlghjiahhojhmaa.Sym
