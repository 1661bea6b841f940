/- penumbraref07, by runs. -/
import Derived.Test.YtlghjiahhojhmaaGreatJC
namespace Go.Proofs.YtlghjiahhojhmaaGreat.Sym
open Go Go.RowKit M Kahn
set_option maxRecDepth 1000000
set_option linter.unusedSimpArgs false
set_option linter.unusedVariables false

@[go_sem] def s7Identity : Spec := ⟨27, fun xs => match xs with
  | [] => some (⟨.inl (cn [1, 0, 0, 0, 1, 0, 0, 0, 1, 0, 0, 0] (2))⟩, True)
  | _ => none⟩
set_option maxHeartbeats 8000000 in
theorem s7Identity_ok : SpecOk Tryz.prog s7Identity := SpecOk.mk' Tryz.func27 (by kernel_rfl) (by kernel_rfl) (fun xs r p h hp => by
  simp only [s7Identity] at h
  split at h
  · cases h
    have i0 : ((0 : Int) : Rat) / ((1 : Int) : Rat) = 0 := by decide +kernel
    have i1 : ((1 : Int) : Rat) / ((1 : Int) : Rat) = 1 := by decide +kernel
    refine At.ok (fuel := 60) (hs := []) S8_ok Tryz.func27 (by kernel_rfl) ?_
    simp only [Tryz.f27, go_sem, i0, i1, Nat.reduceAdd, Nat.reduceSub, Nat.reduceMul, Int.reduceAdd, Int.reduceSub, Int.reduceToNat]
    and_intros
    all_goals first | with_reducible rfl | omega | (grind)
  · cases h)
@[go_sem] def s7Turn : Spec := spN 10 fun l => match l with
  | [([a11, a12, a13, a21, a22, a23, a31, a32, a33, a41, a42, a43], K), ([d1, d2, d3], L)] => some (⟨.inl (cn [a11 * d1 + a12 * d2 + a13 * d3, a21 * d1 + a22 * d2 + a23 * d3, a31 * d1 + a32 * d2 + a33 * d3] (3 * (K + L) + 2))⟩, 1 ≤ K ∧ 1 ≤ L ∧ 64 * max K L + 64 ≤ 17179869184)
  | _ => none
set_option maxHeartbeats 8000000 in
theorem s7Turn_ok : SpecOk Tryz.prog s7Turn := SpecOk.mk' Tryz.func10 (by kernel_rfl) (by kernel_rfl) (spN_at fun l r p h hp => by
  split at h
  · rename_i a11 a12 a13 a21 a22 a23 a31 a32 a33 a41 a42 a43 K d1 d2 d3 L
    cases h
    have i0 : ((0 : Int) : Rat) / ((1 : Int) : Rat) = 0 := by decide +kernel
    have i1 : ((1 : Int) : Rat) / ((1 : Int) : Rat) = 1 := by decide +kernel
    refine At.ok (fuel := 60) (hs := []) S8_ok Tryz.func10 (by kernel_rfl) ?_
    simp only [Tryz.f10, go_sem, i0, i1, Nat.reduceAdd, Nat.reduceSub, Nat.reduceMul, Int.reduceAdd, Int.reduceSub, Int.reduceToNat]
    and_intros
    all_goals first | with_reducible rfl | omega | (grind)
  · cases h)
@[go_sem] def s7Told : Spec := spC 37 fun l => match l with
  | [([o1, o2, o3], K), ([x1, x2, x3], L), ([y1, y2, y3], M), ([z1, z2, z3], N)] => some (⟨.inl (cn [x1 - o1, y1 - o1, z1 - o1, x2 - o2, y2 - o2, z2 - o2, x3 - o3, y3 - o3, z3 - o3, o1, o2, o3] (K + L + M + N + 1))⟩, 1 ≤ K ∧ 1 ≤ L ∧ 1 ≤ M ∧ 1 ≤ N ∧ 8 * max K (max L (max M N)) ≤ 17179869184)
  | _ => none
set_option maxHeartbeats 8000000 in
theorem s7Told_ok : SpecOk Tryz.prog s7Told := SpecOk.mk' Tryz.func37 (by kernel_rfl) (by kernel_rfl) (spC_at fun l r p h hp => by
  split at h
  · rename_i o1 o2 o3 K x1 x2 x3 L y1 y2 y3 M z1 z2 z3 N
    cases h
    have i0 : ((0 : Int) : Rat) / ((1 : Int) : Rat) = 0 := by decide +kernel
    have i1 : ((1 : Int) : Rat) / ((1 : Int) : Rat) = 1 := by decide +kernel
    refine At.ok (fuel := 60) (hs := []) S8_ok Tryz.func37 (by kernel_rfl) ?_
    simp only [Tryz.f37, go_sem, i0, i1, Nat.reduceAdd, Nat.reduceSub, Nat.reduceMul, Int.reduceAdd, Int.reduceSub, Int.reduceToNat]
    and_intros
    all_goals first | with_reducible rfl | omega | (grind)
  · cases h)
@[go_sem] def s7Det : Spec := spN 15 fun l => match l with
  | [([a11, a12, a13, a21, a22, a23, a31, a32, a33, a41, a42, a43], K)] => some (⟨.inl (cn [a11 * (a22 * a33 - a23 * a32) + a12 * (a23 * a31 - a21 * a33) + a13 * (a21 * a32 - a22 * a31)] (15 * K + 5))⟩, 1 ≤ K ∧ 64 * K + 64 ≤ 17179869184)
  | _ => none
set_option maxHeartbeats 8000000 in
theorem s7Det_ok : SpecOk Tryz.prog s7Det := SpecOk.mk' Tryz.func15 (by kernel_rfl) (by kernel_rfl) (spN_at fun l r p h hp => by
  split at h
  · rename_i a11 a12 a13 a21 a22 a23 a31 a32 a33 a41 a42 a43 K
    cases h
    have i0 : ((0 : Int) : Rat) / ((1 : Int) : Rat) = 0 := by decide +kernel
    have i1 : ((1 : Int) : Rat) / ((1 : Int) : Rat) = 1 := by decide +kernel
    refine At.ok (fuel := 60) (hs := []) S8_ok Tryz.func15 (by kernel_rfl) ?_
    simp only [Tryz.f15, go_sem, i0, i1, Nat.reduceAdd, Nat.reduceSub, Nat.reduceMul, Int.reduceAdd, Int.reduceSub, Int.reduceToNat]
    and_intros
    all_goals first | with_reducible rfl | omega | (grind)
  · cases h)
@[go_sem] def s7Area : Spec := spN 12 fun l => match l with
  | [([a11, a12, a13, a21, a22, a23, a31, a32, a33, a41, a42, a43], K), ([d1, d2, d3], L)] => some (⟨.inl (cn [(a22 * a33 - a23 * a32) * d1 + (a23 * a31 - a21 * a33) * d2 + (a21 * a32 - a22 * a31) * d3, (a32 * a13 - a33 * a12) * d1 + (a33 * a11 - a31 * a13) * d2 + (a31 * a12 - a32 * a11) * d3, (a12 * a23 - a13 * a22) * d1 + (a13 * a21 - a11 * a23) * d2 + (a11 * a22 - a12 * a21) * d3] (12 * K + 3 * L + 5))⟩, 1 ≤ K ∧ 1 ≤ L ∧ 64 * max K L + 64 ≤ 17179869184)
  | _ => none
set_option maxHeartbeats 8000000 in
theorem s7Area_ok : SpecOk Tryz.prog s7Area := SpecOk.mk' Tryz.func12 (by kernel_rfl) (by kernel_rfl) (spN_at fun l r p h hp => by
  split at h
  · rename_i a11 a12 a13 a21 a22 a23 a31 a32 a33 a41 a42 a43 K d1 d2 d3 L
    cases h
    have i0 : ((0 : Int) : Rat) / ((1 : Int) : Rat) = 0 := by decide +kernel
    have i1 : ((1 : Int) : Rat) / ((1 : Int) : Rat) = 1 := by decide +kernel
    refine At.ok (fuel := 60) (hs := []) S8_ok Tryz.func12 (by kernel_rfl) ?_
    simp only [Tryz.f12, go_sem, i0, i1, Nat.reduceAdd, Nat.reduceSub, Nat.reduceMul, Int.reduceAdd, Int.reduceSub, Int.reduceToNat]
    and_intros
    all_goals first | with_reducible rfl | omega | (grind)
  · cases h)
@[go_sem] def s7Solve : Spec := spN 45 fun l => match l with
  | [([a11, a12, a13, a21, a22, a23, a31, a32, a33, a41, a42, a43], K), ([one], L), ([det], M), ([t1, t2, t3], N)] => some (⟨.inl (cn [one / det * (t1 * (a22 * a33 - a32 * a23) + t2 * (a32 * a13 - a12 * a33) + t3 * (a12 * a23 - a22 * a13)), one / det * (a11 * (t2 * a33 - t3 * a23) + a21 * (t3 * a13 - t1 * a33) + a31 * (t1 * a23 - t2 * a13)), one / det * (a11 * (a22 * t3 - a32 * t2) + a21 * (a32 * t1 - a12 * t3) + a31 * (a12 * t2 - a22 * t1))] (24 * K + L + M + 24 * N + 40))⟩, 1 ≤ K ∧ 1 ≤ L ∧ 1 ≤ M ∧ 1 ≤ N ∧ 64 * max K (max L (max M N)) + 64 ≤ 17179869184)
  | _ => none
set_option maxHeartbeats 8000000 in
theorem s7Solve_ok : SpecOk Tryz.prog s7Solve := SpecOk.mk' Tryz.func45 (by kernel_rfl) (by kernel_rfl) (spN_at fun l r p h hp => by
  split at h
  · rename_i a11 a12 a13 a21 a22 a23 a31 a32 a33 a41 a42 a43 K one L det M t1 t2 t3 N
    cases h
    have i0 : ((0 : Int) : Rat) / ((1 : Int) : Rat) = 0 := by decide +kernel
    have i1 : ((1 : Int) : Rat) / ((1 : Int) : Rat) = 1 := by decide +kernel
    refine At.ok (fuel := 60) (hs := []) S8_ok Tryz.func45 (by kernel_rfl) ?_
    simp only [Tryz.f45, go_sem, i0, i1, Nat.reduceAdd, Nat.reduceSub, Nat.reduceMul, Int.reduceAdd, Int.reduceSub, Int.reduceToNat]
    and_intros
    all_goals first | with_reducible rfl | omega | (grind)
  · cases h)
@[go_sem] def s7Stretched : Spec := spN 48 fun l => match l with
  | [([p1, p2, p3], K), ([n1, n2, n3], L), ([k], M), ([x1, x2, x3], N)] => some (⟨.inl (cn [x1 + (k - 1) * ((x1 - p1) * n1 + (x2 - p2) * n2 + (x3 - p3) * n3) * n1, x2 + (k - 1) * ((x1 - p1) * n1 + (x2 - p2) * n2 + (x3 - p3) * n3) * n2, x3 + (k - 1) * ((x1 - p1) * n1 + (x2 - p2) * n2 + (x3 - p3) * n3) * n3] (8 * (K + L + M + N) + 32))⟩, 1 ≤ K ∧ 1 ≤ L ∧ 1 ≤ M ∧ 1 ≤ N ∧ 64 * max K (max L (max M N)) + 64 ≤ 17179869184)
  | _ => none
set_option maxHeartbeats 8000000 in
theorem s7Stretched_ok : SpecOk Tryz.prog s7Stretched := SpecOk.mk' Tryz.func48 (by kernel_rfl) (by kernel_rfl) (spN_at fun l r p h hp => by
  split at h
  · rename_i p1 p2 p3 K n1 n2 n3 L k M x1 x2 x3 N
    cases h
    have i0 : ((0 : Int) : Rat) / ((1 : Int) : Rat) = 0 := by decide +kernel
    have i1 : ((1 : Int) : Rat) / ((1 : Int) : Rat) = 1 := by decide +kernel
    refine At.ok (fuel := 60) (hs := []) S8_ok Tryz.func48 (by kernel_rfl) ?_
    simp only [Tryz.f48, go_sem, i0, i1, Nat.reduceAdd, Nat.reduceSub, Nat.reduceMul, Int.reduceAdd, Int.reduceSub, Int.reduceToNat]
    and_intros
    all_goals first | with_reducible rfl | omega | (grind)
  · cases h)
@[go_sem] def s7Is : Spec := spC 16 fun l => match l with
  | [([a11, a12, a13, a21, a22, a23, a31, a32, a33, a41, a42, a43], K), ([b11, b12, b13, b21, b22, b23, b31, b32, b33, b41, b42, b43], L)] => some (⟨.inl ⟨some (.inl (.bool (decide ((a11 = b11 ∧ a12 = b12 ∧ a13 = b13) ∧ (a21 = b21 ∧ a22 = b22 ∧ a23 = b23) ∧ (a31 = b31 ∧ a32 = b32 ∧ a33 = b33) ∧ (a41 = b41 ∧ a42 = b42 ∧ a43 = b43)))))⟩⟩, K ≤ 1099511627776 ∧ L ≤ 1099511627776)
  | _ => none
set_option maxHeartbeats 8000000 in
theorem s7Is_ok : SpecOk Tryz.prog s7Is := SpecOk.mk' Tryz.func16 (by kernel_rfl) (by kernel_rfl) (spC_at fun l r p h hp => by
  split at h
  · rename_i a11 a12 a13 a21 a22 a23 a31 a32 a33 a41 a42 a43 K b11 b12 b13 b21 b22 b23 b31 b32 b33 b41 b42 b43 L
    cases h
    by_cases h0 : a11 = b11 ∧ a12 = b12 ∧ a13 = b13
    rotate_left
    · rw [show decide ((a11 = b11 ∧ a12 = b12 ∧ a13 = b13) ∧ (a21 = b21 ∧ a22 = b22 ∧ a23 = b23) ∧ (a31 = b31 ∧ a32 = b32 ∧ a33 = b33) ∧ (a41 = b41 ∧ a42 = b42 ∧ a43 = b43)) = false from by simp only [eq_false h0, and_false, false_and, true_and]; rfl]
      refine At.ok (fuel := 60) (hs := [false]) S8_ok Tryz.func16 (by kernel_rfl) ?_
      simp only [Tryz.f16, go_sem, decide_eq_true_eq, decide_eq_false_iff_not, ne_eq, not_true_eq_false, not_false_eq_true, Decidable.not_not, beq_iff_eq, beq_eq_false_iff_ne, bne_eq_false_iff_eq, bne_iff_ne, qsgn_zero, eq_false h0, and_false, false_and, true_and, Nat.reduceAdd, Nat.reduceSub, Nat.reduceMul, Int.reduceAdd, Int.reduceSub, Int.reduceToNat]
      and_intros
      all_goals first | with_reducible rfl | omega | (trivial)
    by_cases h1 : a21 = b21 ∧ a22 = b22 ∧ a23 = b23
    rotate_left
    · rw [show decide ((a11 = b11 ∧ a12 = b12 ∧ a13 = b13) ∧ (a21 = b21 ∧ a22 = b22 ∧ a23 = b23) ∧ (a31 = b31 ∧ a32 = b32 ∧ a33 = b33) ∧ (a41 = b41 ∧ a42 = b42 ∧ a43 = b43)) = false from by simp only [eq_false h1, eq_true h0, and_false, false_and, true_and]; rfl]
      refine At.ok (fuel := 60) (hs := [true, false]) S8_ok Tryz.func16 (by kernel_rfl) ?_
      simp only [Tryz.f16, go_sem, decide_eq_true_eq, decide_eq_false_iff_not, ne_eq, not_true_eq_false, not_false_eq_true, Decidable.not_not, beq_iff_eq, beq_eq_false_iff_ne, bne_eq_false_iff_eq, bne_iff_ne, qsgn_zero, eq_false h1, eq_true h0, and_false, false_and, true_and, Nat.reduceAdd, Nat.reduceSub, Nat.reduceMul, Int.reduceAdd, Int.reduceSub, Int.reduceToNat]
      and_intros
      all_goals first | with_reducible rfl | omega | (trivial)
    by_cases h2 : a31 = b31 ∧ a32 = b32 ∧ a33 = b33
    rotate_left
    · rw [show decide ((a11 = b11 ∧ a12 = b12 ∧ a13 = b13) ∧ (a21 = b21 ∧ a22 = b22 ∧ a23 = b23) ∧ (a31 = b31 ∧ a32 = b32 ∧ a33 = b33) ∧ (a41 = b41 ∧ a42 = b42 ∧ a43 = b43)) = false from by simp only [eq_false h2, eq_true h0, eq_true h1, and_false, false_and, true_and]; rfl]
      refine At.ok (fuel := 60) (hs := [true, true, false]) S8_ok Tryz.func16 (by kernel_rfl) ?_
      simp only [Tryz.f16, go_sem, decide_eq_true_eq, decide_eq_false_iff_not, ne_eq, not_true_eq_false, not_false_eq_true, Decidable.not_not, beq_iff_eq, beq_eq_false_iff_ne, bne_eq_false_iff_eq, bne_iff_ne, qsgn_zero, eq_false h2, eq_true h0, eq_true h1, and_false, false_and, true_and, Nat.reduceAdd, Nat.reduceSub, Nat.reduceMul, Int.reduceAdd, Int.reduceSub, Int.reduceToNat]
      and_intros
      all_goals first | with_reducible rfl | omega | (trivial)
    by_cases h3 : a41 = b41 ∧ a42 = b42 ∧ a43 = b43
    · rw [show decide ((a11 = b11 ∧ a12 = b12 ∧ a13 = b13) ∧ (a21 = b21 ∧ a22 = b22 ∧ a23 = b23) ∧ (a31 = b31 ∧ a32 = b32 ∧ a33 = b33) ∧ (a41 = b41 ∧ a42 = b42 ∧ a43 = b43)) = true from by simp only [eq_true h0, eq_true h1, eq_true h2, eq_true h3, and_true]; rfl]
      refine At.ok (fuel := 60) (hs := [true, true, true, true]) S8_ok Tryz.func16 (by kernel_rfl) ?_
      simp only [Tryz.f16, go_sem, decide_eq_true_eq, decide_eq_false_iff_not, ne_eq, not_true_eq_false, not_false_eq_true, Decidable.not_not, beq_iff_eq, beq_eq_false_iff_ne, bne_eq_false_iff_eq, bne_iff_ne, qsgn_zero, eq_true h0, eq_true h1, eq_true h2, eq_true h3, and_true, Nat.reduceAdd, Nat.reduceSub, Nat.reduceMul, Int.reduceAdd, Int.reduceSub, Int.reduceToNat]
      and_intros
      all_goals first | with_reducible rfl | omega | (trivial)
    · rw [show decide ((a11 = b11 ∧ a12 = b12 ∧ a13 = b13) ∧ (a21 = b21 ∧ a22 = b22 ∧ a23 = b23) ∧ (a31 = b31 ∧ a32 = b32 ∧ a33 = b33) ∧ (a41 = b41 ∧ a42 = b42 ∧ a43 = b43)) = false from by simp only [eq_false h3, eq_true h0, eq_true h1, eq_true h2, and_false, false_and, true_and]; rfl]
      refine At.ok (fuel := 60) (hs := [true, true, true, false]) S8_ok Tryz.func16 (by kernel_rfl) ?_
      simp only [Tryz.f16, go_sem, decide_eq_true_eq, decide_eq_false_iff_not, ne_eq, not_true_eq_false, not_false_eq_true, Decidable.not_not, beq_iff_eq, beq_eq_false_iff_ne, bne_eq_false_iff_eq, bne_iff_ne, qsgn_zero, eq_false h3, eq_true h0, eq_true h1, eq_true h2, and_false, false_and, true_and, Nat.reduceAdd, Nat.reduceSub, Nat.reduceMul, Int.reduceAdd, Int.reduceSub, Int.reduceToNat]
      and_intros
      all_goals first | with_reducible rfl | omega | (trivial)
  · cases h)
@[go_sem] def S9 : List Spec := s7Identity :: s7Turn :: s7Told :: s7Det :: s7Area :: s7Solve :: s7Stretched :: s7Is :: S8
theorem S9_ok : AllOk Tryz.prog S9 := ⟨s7Identity_ok, s7Turn_ok, s7Told_ok, s7Det_ok, s7Area_ok, s7Solve_ok, s7Stretched_ok, s7Is_ok, S8_ok⟩
@[go_sem] def s7Apply : Spec := spN 8 fun l => match l with
  | [([a11, a12, a13, a21, a22, a23, a31, a32, a33, a41, a42, a43], K), ([d1, d2, d3], L)] => some (⟨.inl (cn [a11 * d1 + a12 * d2 + a13 * d3 + a41, a21 * d1 + a22 * d2 + a23 * d3 + a42, a31 * d1 + a32 * d2 + a33 * d3 + a43] (6 * (K + L) + 7))⟩, 1 ≤ K ∧ 1 ≤ L ∧ 64 * max K L + 64 ≤ 17179869184)
  | _ => none
set_option maxHeartbeats 8000000 in
theorem s7Apply_ok : SpecOk Tryz.prog s7Apply := SpecOk.mk' Tryz.func8 (by kernel_rfl) (by kernel_rfl) (spN_at fun l r p h hp => by
  split at h
  · rename_i a11 a12 a13 a21 a22 a23 a31 a32 a33 a41 a42 a43 K d1 d2 d3 L
    cases h
    have i0 : ((0 : Int) : Rat) / ((1 : Int) : Rat) = 0 := by decide +kernel
    have i1 : ((1 : Int) : Rat) / ((1 : Int) : Rat) = 1 := by decide +kernel
    refine At.ok (fuel := 60) (hs := []) S9_ok Tryz.func8 (by kernel_rfl) ?_
    simp only [Tryz.f8, go_sem, i0, i1, Nat.reduceAdd, Nat.reduceSub, Nat.reduceMul, Int.reduceAdd, Int.reduceSub, Int.reduceToNat]
    and_intros
    all_goals first | with_reducible rfl | omega | (grind)
  · cases h)
@[go_sem] def s7Stretch : Spec := spN 22 fun l => match l with
  | [([p1, p2, p3], K), ([n1, n2, n3], L), ([k], M)] => some (⟨.inl (cn [1 + (k - 1) * n1 * n1, 0 + (k - 1) * n1 * n2, 0 + (k - 1) * n1 * n3, 0 + (k - 1) * n2 * n1, 1 + (k - 1) * n2 * n2, 0 + (k - 1) * n2 * n3, 0 + (k - 1) * n3 * n1, 0 + (k - 1) * n3 * n2, 1 + (k - 1) * n3 * n3, -((p1 * n1 + p2 * n2 + p3 * n3) * ((k - 1) * n1)), -((p1 * n1 + p2 * n2 + p3 * n3) * ((k - 1) * n2)), -((p1 * n1 + p2 * n2 + p3 * n3) * ((k - 1) * n3))] (32 * (K + L + M) + 256))⟩, 1 ≤ K ∧ 1 ≤ L ∧ 1 ≤ M ∧ 256 * max K (max L M) + 256 ≤ 17179869184)
  | _ => none
set_option maxHeartbeats 8000000 in
theorem s7Stretch_ok : SpecOk Tryz.prog s7Stretch := SpecOk.mk' Tryz.func22 (by kernel_rfl) (by kernel_rfl) (spN_at fun l r p h hp => by
  split at h
  · rename_i p1 p2 p3 K n1 n2 n3 L k M
    cases h
    have i0 : ((0 : Int) : Rat) / ((1 : Int) : Rat) = 0 := by decide +kernel
    have i1 : ((1 : Int) : Rat) / ((1 : Int) : Rat) = 1 := by decide +kernel
    refine At.ok (fuel := 60) (hs := []) S9_ok Tryz.func22 (by kernel_rfl) ?_
    simp only [Tryz.f22, go_sem, i0, i1, Nat.reduceAdd, Nat.reduceSub, Nat.reduceMul, Int.reduceAdd, Int.reduceSub, Int.reduceToNat]
    and_intros
    all_goals first | with_reducible rfl | omega | (grind)
  · cases h)
@[go_sem] def S10 : List Spec := s7Apply :: s7Stretch :: S9
theorem S10_ok : AllOk Tryz.prog S10 := ⟨s7Apply_ok, s7Stretch_ok, S9_ok⟩
@[go_sem] def s7Then : Spec := spN 18 fun l => match l with
  | [([a11, a12, a13, a21, a22, a23, a31, a32, a33, a41, a42, a43], K), ([b11, b12, b13, b21, b22, b23, b31, b32, b33, b41, b42, b43], L)] => some (⟨.inl (cn [b11 * a11 + b12 * a21 + b13 * a31, b11 * a12 + b12 * a22 + b13 * a32, b11 * a13 + b12 * a23 + b13 * a33, b21 * a11 + b22 * a21 + b23 * a31, b21 * a12 + b22 * a22 + b23 * a32, b21 * a13 + b22 * a23 + b23 * a33, b31 * a11 + b32 * a21 + b33 * a31, b31 * a12 + b32 * a22 + b33 * a32, b31 * a13 + b32 * a23 + b33 * a33, b11 * a41 + b12 * a42 + b13 * a43 + b41, b21 * a41 + b22 * a42 + b23 * a43 + b42, b31 * a41 + b32 * a42 + b33 * a43 + b43] (256 * (K + L) + 256))⟩, 1 ≤ K ∧ 1 ≤ L ∧ 2048 * max K L + 2048 ≤ 17179869184)
  | _ => none
set_option maxHeartbeats 8000000 in
theorem s7Then_ok : SpecOk Tryz.prog s7Then := SpecOk.mk' Tryz.func18 (by kernel_rfl) (by kernel_rfl) (spN_at fun l r p h hp => by
  split at h
  · rename_i a11 a12 a13 a21 a22 a23 a31 a32 a33 a41 a42 a43 K b11 b12 b13 b21 b22 b23 b31 b32 b33 b41 b42 b43 L
    cases h
    have i0 : ((0 : Int) : Rat) / ((1 : Int) : Rat) = 0 := by decide +kernel
    have i1 : ((1 : Int) : Rat) / ((1 : Int) : Rat) = 1 := by decide +kernel
    refine At.ok (fuel := 60) (hs := []) S10_ok Tryz.func18 (by kernel_rfl) ?_
    simp only [Tryz.f18, go_sem, i0, i1, Nat.reduceAdd, Nat.reduceSub, Nat.reduceMul, Int.reduceAdd, Int.reduceSub, Int.reduceToNat]
    and_intros
    all_goals first | with_reducible rfl | omega | (grind)
  · cases h)
@[go_sem] def s7Inverse : Spec := spN 20 fun l => match l with
  | [([a11, a12, a13, a21, a22, a23, a31, a32, a33, a41, a42, a43], K)] => some (⟨.inr [cn [iv (a11 * (a22 * a33 - a23 * a32) + a12 * (a23 * a31 - a21 * a33) + a13 * (a21 * a32 - a22 * a31)) (a22 * a33 - a23 * a32) 1, iv (a11 * (a22 * a33 - a23 * a32) + a12 * (a23 * a31 - a21 * a33) + a13 * (a21 * a32 - a22 * a31)) (a32 * a13 - a33 * a12) 0, iv (a11 * (a22 * a33 - a23 * a32) + a12 * (a23 * a31 - a21 * a33) + a13 * (a21 * a32 - a22 * a31)) (a12 * a23 - a13 * a22) 0, iv (a11 * (a22 * a33 - a23 * a32) + a12 * (a23 * a31 - a21 * a33) + a13 * (a21 * a32 - a22 * a31)) (a23 * a31 - a21 * a33) 0, iv (a11 * (a22 * a33 - a23 * a32) + a12 * (a23 * a31 - a21 * a33) + a13 * (a21 * a32 - a22 * a31)) (a33 * a11 - a31 * a13) 1, iv (a11 * (a22 * a33 - a23 * a32) + a12 * (a23 * a31 - a21 * a33) + a13 * (a21 * a32 - a22 * a31)) (a13 * a21 - a11 * a23) 0, iv (a11 * (a22 * a33 - a23 * a32) + a12 * (a23 * a31 - a21 * a33) + a13 * (a21 * a32 - a22 * a31)) (a21 * a32 - a22 * a31) 0, iv (a11 * (a22 * a33 - a23 * a32) + a12 * (a23 * a31 - a21 * a33) + a13 * (a21 * a32 - a22 * a31)) (a31 * a12 - a32 * a11) 0, iv (a11 * (a22 * a33 - a23 * a32) + a12 * (a23 * a31 - a21 * a33) + a13 * (a21 * a32 - a22 * a31)) (a11 * a22 - a12 * a21) 1, iv (a11 * (a22 * a33 - a23 * a32) + a12 * (a23 * a31 - a21 * a33) + a13 * (a21 * a32 - a22 * a31)) (-((a22 * a33 - a23 * a32) * a41 + (a32 * a13 - a33 * a12) * a42 + (a12 * a23 - a13 * a22) * a43)) 0, iv (a11 * (a22 * a33 - a23 * a32) + a12 * (a23 * a31 - a21 * a33) + a13 * (a21 * a32 - a22 * a31)) (-((a23 * a31 - a21 * a33) * a41 + (a33 * a11 - a31 * a13) * a42 + (a13 * a21 - a11 * a23) * a43)) 0, iv (a11 * (a22 * a33 - a23 * a32) + a12 * (a23 * a31 - a21 * a33) + a13 * (a21 * a32 - a22 * a31)) (-((a21 * a32 - a22 * a31) * a41 + (a31 * a12 - a32 * a11) * a42 + (a11 * a22 - a12 * a21) * a43)) 0] (1024 * K + 1024), ⟨some (.inl (.bool (decide ((a11 * (a22 * a33 - a23 * a32) + a12 * (a23 * a31 - a21 * a33) + a13 * (a21 * a32 - a22 * a31)) ≠ 0))))⟩]⟩, 1 ≤ K ∧ 2048 * K + 2048 ≤ 17179869184)
  | _ => none
set_option maxHeartbeats 8000000 in
theorem s7Inverse_ok : SpecOk Tryz.prog s7Inverse := SpecOk.mk' Tryz.func20 (by kernel_rfl) (by kernel_rfl) (spN_at fun l r p h hp => by
  split at h
  · rename_i a11 a12 a13 a21 a22 a23 a31 a32 a33 a41 a42 a43 K
    cases h
    have i0 : ((0 : Int) : Rat) / ((1 : Int) : Rat) = 0 := by decide +kernel
    have i1 : ((1 : Int) : Rat) / ((1 : Int) : Rat) = 1 := by decide +kernel
    by_cases hz : a11 * (a22 * a33 - a23 * a32) + a12 * (a23 * a31 - a21 * a33) + a13 * (a21 * a32 - a22 * a31) = 0
    · have y1 := iv_no hz
      rw [show decide ((a11 * (a22 * a33 - a23 * a32) + a12 * (a23 * a31 - a21 * a33) + a13 * (a21 * a32 - a22 * a31)) ≠ 0) = false from by simp [hz]]
      simp only [y1]
      refine At.ok (fuel := 60) (hs := [true]) S10_ok Tryz.func20 (by kernel_rfl) ?_
      simp only [Tryz.f20, go_sem, i0, i1, decide_eq_true_eq, decide_eq_false_iff_not, ne_eq, not_true_eq_false, not_false_eq_true, Decidable.not_not, beq_iff_eq, beq_eq_false_iff_ne, bne_eq_false_iff_eq, bne_iff_ne, qsgn_zero, hz, Nat.reduceAdd, Nat.reduceSub, Nat.reduceMul, Int.reduceAdd, Int.reduceSub, Int.reduceToNat]
      and_intros
      all_goals first | with_reducible rfl | omega | (grind)
    · obtain ⟨s, y0, hs, y1⟩ := iv_yes hz
      rw [show decide ((a11 * (a22 * a33 - a23 * a32) + a12 * (a23 * a31 - a21 * a33) + a13 * (a21 * a32 - a22 * a31)) ≠ 0) = true from by simp [hz]]
      simp only [y1]
      clear y1
      refine At.ok (fuel := 60) (hs := [false]) S10_ok Tryz.func20 (by kernel_rfl) ?_
      simp only [Tryz.f20, go_sem, i0, i1, decide_eq_true_eq, decide_eq_false_iff_not, ne_eq, not_true_eq_false, not_false_eq_true, Decidable.not_not, beq_iff_eq, beq_eq_false_iff_ne, bne_eq_false_iff_eq, bne_iff_ne, qsgn_zero, hz, hs, Nat.reduceAdd, Nat.reduceSub, Nat.reduceMul, Int.reduceAdd, Int.reduceSub, Int.reduceToNat]
      and_intros
      all_goals first | with_reducible rfl | omega | (grind)
  · cases h)
@[go_sem] def S11 : List Spec := s7Then :: s7Inverse :: S10
theorem S11_ok : AllOk Tryz.prog S11 := ⟨s7Then_ok, s7Inverse_ok, S10_ok⟩
end Go.Proofs.YtlghjiahhojhmaaGreat.Sym

/- penumbralaw07.fixed: true. -/
namespace Go.Proofs.YtlghjiahhojhmaaGreat.Sym
open Go Go.RowKit M Kahn
set_option maxRecDepth 1000000
set_option linter.unusedSimpArgs false
set_option linter.unusedVariables false

@[go_sem] def sFixed7 : Spec := ⟨5, fun xs => match xs with
  | [] => some (⟨.inl ⟨some (.inl (.bool true))⟩⟩, True)
  | _ => none⟩
set_option maxHeartbeats 16000000 in
theorem sFixed7_ok : SpecOk Tryz.prog sFixed7 := SpecOk.mk' Tryz.func5 (by kernel_rfl) (by kernel_rfl) (fun xs r p h hp => by
  simp only [sFixed7] at h
  split at h
  · cases h
    have i0 : ((0 : Int) : Rat) / ((1 : Int) : Rat) = 0 := by decide +kernel
    have i1 : ((1 : Int) : Rat) / ((1 : Int) : Rat) = 1 := by decide +kernel
    have im : ((-1 : Int) : Rat) / ((1 : Int) : Rat) = -1 := by decide +kernel
    refine At.ok (fuel := 100) (hs := [false, true, true, true, true]) S11_ok Tryz.func5 (by kernel_rfl) ?_
    simp (maxSteps := 10000000) only [Tryz.f5, go_sem, decide_eq_true_eq, decide_eq_false_iff_not, ne_eq, not_true_eq_false, not_false_eq_true, Decidable.not_not, beq_iff_eq, beq_eq_false_iff_ne, bne_eq_false_iff_eq, bne_iff_ne, qsgn_zero, eq_self, decide_true, decide_false, and_self, i0, i1, im, Nat.reduceAdd, Nat.reduceSub, Nat.reduceMul, Int.reduceAdd, Int.reduceSub, Int.reduceToNat]
    and_intros
    all_goals first | with_reducible rfl | omega | decide | (decide +kernel)
  · cases h)
@[go_sem] def S12 : List Spec := sFixed7 :: S11
theorem S12_ok : AllOk Tryz.prog S12 := ⟨sFixed7_ok, S11_ok⟩
end Go.Proofs.YtlghjiahhojhmaaGreat.Sym
