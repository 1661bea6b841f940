/- penumbraref08, by runs. -/
import Derived.Test.YtmoicmjljflcgaaGreatJE
namespace Go.Proofs.YtmoicmjljflcgaaGreat.Sym
open Go Go.RowKit M Kahn
set_option maxRecDepth 1000000
set_option linter.unusedSimpArgs false
set_option linter.unusedVariables false

theorem neg_div' {q p : Rat} : -q / p = -(q / p) := by grind
theorem div_neg' {q p : Rat} : -(q / p) = q / -p := by by_cases h : p = 0 <;> grind
theorem way_eq (o s d a : Rat) : o + s * d - a = s * d - (a - o) := by grind
theorem cross_l (z1 z2 z3 y1 y2 y3 : Rat) : (z2 * y3 - z3 * y2) * z1 + (z3 * y1 - z1 * y3) * z2 + (z1 * y2 - z2 * y1) * z3 = 0 := by grind
theorem cross_r (z1 z2 z3 y1 y2 y3 : Rat) : (z2 * y3 - z3 * y2) * y1 + (z3 * y1 - z1 * y3) * y2 + (z1 * y2 - z2 * y1) * y3 = 0 := by grind
theorem small_tri_v (n1 n2 n3 x1 x2 x3 d1 d2 d3 y1 y2 y3 s p1 p2 p3 : Rat) (h : n1 * y1 + n2 * y2 + n3 * y3 = 0) (hD : ¬ n1 * d1 + n2 * d2 + n3 * d3 = 0) (hs : s * (n1 * d1 + n2 * d2 + n3 * d3) = n1 * x1 + n2 * x2 + n3 * x3) (h1 : p1 = s * d1 - x1) (h2 : p2 = s * d2 - x2) (h3 : p3 = s * d3 - x3) : ((y2 * p3 - y3 * p2) * n1 + (y3 * p1 - y1 * p3) * n2 + (y1 * p2 - y2 * p1) * n3) / (n1 * n1 + n2 * n2 + n3 * n3) = ((x2 * d3 - x3 * d2) * y1 + (x3 * d1 - x1 * d3) * y2 + (x1 * d2 - x2 * d1) * y3) / (-(n1 * d1 + n2 * d2 + n3 * d3)) := by
  have := small_tri n1 n2 n3 x1 x2 x3 d1 d2 d3 y1 y2 y3 s p1 p2 p3 h hD hs h1 h2 h3
  rw [show (y2 * p3 - y3 * p2) * n1 + (y3 * p1 - y1 * p3) * n2 + (y1 * p2 - y2 * p1) * n3 = -((p2 * y3 - p3 * y2) * n1 + (p3 * y1 - p1 * y3) * n2 + (p1 * y2 - p2 * y1) * n3) from by clear this h hD hs h1 h2 h3; grind, neg_div', this, div_neg']
@[go_sem] def s8Is : Spec := spC 18 fun l => match l with
  | [([a1, a2, a3], K), ([b1, b2, b3], L)] => some (⟨.inl ⟨some (.inl (.bool (decide (a1 = b1 ∧ a2 = b2 ∧ a3 = b3))))⟩⟩, K ≤ 1099511627776 ∧ L ≤ 1099511627776)
  | _ => none
set_option maxHeartbeats 16000000 in
theorem s8Is_ok : SpecOk Tryz.prog s8Is := SpecOk.mk' Tryz.func18 (by kernel_rfl) (by kernel_rfl) (spC_at fun l r p h hp => by
  split at h
  · rename_i a1 a2 a3 K b1 b2 b3 L
    cases h
    by_cases h0 : a1 = b1
    rotate_left
    · rw [show decide (a1 = b1 ∧ a2 = b2 ∧ a3 = b3) = false from by simp only [eq_false h0, and_false, false_and, true_and]; rfl]
      refine At.ok (fuel := 60) (hs := [false]) S15_ok Tryz.func18 (by kernel_rfl) ?_
      simp (maxSteps := 10000000) only [Tryz.f18, go_sem, decide_eq_true_eq, decide_eq_false_iff_not, ne_eq, not_true_eq_false, not_false_eq_true, Decidable.not_not, beq_iff_eq, beq_eq_false_iff_ne, bne_eq_false_iff_eq, bne_iff_ne, qsgn_zero, qsgn_le, qsgn_lt, qsgn_gt, eq_false h0, and_false, false_and, true_and, Nat.reduceAdd, Nat.reduceSub, Nat.reduceMul, Int.reduceAdd, Int.reduceSub, Int.reduceToNat]
      and_intros
      all_goals first | with_reducible rfl | omega | (trivial)
    by_cases h1 : a2 = b2
    rotate_left
    · rw [show decide (a1 = b1 ∧ a2 = b2 ∧ a3 = b3) = false from by simp only [eq_false h1, eq_true h0, and_false, false_and, true_and]; rfl]
      refine At.ok (fuel := 60) (hs := [true, false]) S15_ok Tryz.func18 (by kernel_rfl) ?_
      simp (maxSteps := 10000000) only [Tryz.f18, go_sem, decide_eq_true_eq, decide_eq_false_iff_not, ne_eq, not_true_eq_false, not_false_eq_true, Decidable.not_not, beq_iff_eq, beq_eq_false_iff_ne, bne_eq_false_iff_eq, bne_iff_ne, qsgn_zero, qsgn_le, qsgn_lt, qsgn_gt, eq_false h1, eq_true h0, and_false, false_and, true_and, Nat.reduceAdd, Nat.reduceSub, Nat.reduceMul, Int.reduceAdd, Int.reduceSub, Int.reduceToNat]
      and_intros
      all_goals first | with_reducible rfl | omega | (trivial)
    by_cases h2 : a3 = b3
    · rw [show decide (a1 = b1 ∧ a2 = b2 ∧ a3 = b3) = true from by simp only [eq_true h0, eq_true h1, eq_true h2, and_true]; rfl]
      refine At.ok (fuel := 60) (hs := [true, true, true]) S15_ok Tryz.func18 (by kernel_rfl) ?_
      simp (maxSteps := 10000000) only [Tryz.f18, go_sem, decide_eq_true_eq, decide_eq_false_iff_not, ne_eq, not_true_eq_false, not_false_eq_true, Decidable.not_not, beq_iff_eq, beq_eq_false_iff_ne, bne_eq_false_iff_eq, bne_iff_ne, qsgn_zero, qsgn_le, qsgn_lt, qsgn_gt, eq_true h0, eq_true h1, eq_true h2, and_true, Nat.reduceAdd, Nat.reduceSub, Nat.reduceMul, Int.reduceAdd, Int.reduceSub, Int.reduceToNat]
      and_intros
      all_goals first | with_reducible rfl | omega | (trivial)
    · rw [show decide (a1 = b1 ∧ a2 = b2 ∧ a3 = b3) = false from by simp only [eq_false h2, eq_true h0, eq_true h1, and_false, false_and, true_and]; rfl]
      refine At.ok (fuel := 60) (hs := [true, true, false]) S15_ok Tryz.func18 (by kernel_rfl) ?_
      simp (maxSteps := 10000000) only [Tryz.f18, go_sem, decide_eq_true_eq, decide_eq_false_iff_not, ne_eq, not_true_eq_false, not_false_eq_true, Decidable.not_not, beq_iff_eq, beq_eq_false_iff_ne, bne_eq_false_iff_eq, bne_iff_ne, qsgn_zero, qsgn_le, qsgn_lt, qsgn_gt, eq_false h2, eq_true h0, eq_true h1, and_false, false_and, true_and, Nat.reduceAdd, Nat.reduceSub, Nat.reduceMul, Int.reduceAdd, Int.reduceSub, Int.reduceToNat]
      and_intros
      all_goals first | with_reducible rfl | omega | (trivial)
  · cases h)
@[go_sem] def s8None : Spec := ⟨47, fun xs => match xs with
  | [] => some (⟨.inl (cn [0, 0, 0] (1))⟩, True)
  | _ => none⟩
set_option maxHeartbeats 8000000 in
theorem s8None_ok : SpecOk Tryz.prog s8None := SpecOk.mk' Tryz.func47 (by kernel_rfl) (by kernel_rfl) (fun xs r p h hp => by
  simp only [s8None] at h
  split at h
  · cases h
    have i0 : ((0 : Int) : Rat) / ((1 : Int) : Rat) = 0 := by decide +kernel
    have i1 : ((1 : Int) : Rat) / ((1 : Int) : Rat) = 1 := by decide +kernel
    have ih : ((1 : Int) : Rat) / ((2 : Int) : Rat) = 1 / 2 := by decide +kernel
    refine At.ok (fuel := 60) (hs := []) S15_ok Tryz.func47 (by kernel_rfl) ?_
    simp (maxSteps := 10000000) only [Tryz.f47, go_sem, i0, i1, ih, Nat.reduceAdd, Nat.reduceSub, Nat.reduceMul, Int.reduceAdd, Int.reduceSub, Int.reduceToNat]
    and_intros
    all_goals first | with_reducible rfl | omega | (grind)
  · cases h)
@[go_sem] def s8Normal : Spec := spN 10 fun l => match l with
  | [([a1, a2, a3, b1, b2, b3, c1, c2, c3], K)] => some (⟨.inl (cn [(b2 - a2) * (c3 - a3) - (b3 - a3) * (c2 - a2), (b3 - a3) * (c1 - a1) - (b1 - a1) * (c3 - a3), (b1 - a1) * (c2 - a2) - (b2 - a2) * (c1 - a1)] (8 * K + 5))⟩, 1 ≤ K ∧ 16 * K + 16 ≤ 17179869184)
  | _ => none
set_option maxHeartbeats 16000000 in
theorem s8Normal_ok : SpecOk Tryz.prog s8Normal := SpecOk.mk' Tryz.func10 (by kernel_rfl) (by kernel_rfl) (spN_at fun l r p h hp => by
  split at h
  · rename_i a1 a2 a3 b1 b2 b3 c1 c2 c3 K
    cases h
    have i0 : ((0 : Int) : Rat) / ((1 : Int) : Rat) = 0 := by decide +kernel
    have i1 : ((1 : Int) : Rat) / ((1 : Int) : Rat) = 1 := by decide +kernel
    have ih : ((1 : Int) : Rat) / ((2 : Int) : Rat) = 1 / 2 := by decide +kernel
    refine At.ok (fuel := 60) (hs := []) S15_ok Tryz.func10 (by kernel_rfl) ?_
    simp (maxSteps := 10000000) only [Tryz.f10, go_sem, i0, i1, ih, Nat.reduceAdd, Nat.reduceSub, Nat.reduceMul, Int.reduceAdd, Int.reduceSub, Int.reduceToNat]
    and_intros
    all_goals first | with_reducible rfl | omega | (grind)
  · cases h)
@[go_sem] def s8At : Spec := spN 15 fun l => match l with
  | [([o1, o2, o3], K), ([d1, d2, d3], L), ([s], M)] => some (⟨.inl (cn [o1 + s * d1, o2 + s * d2, o3 + s * d3] (K + L + M + 1))⟩, 1 ≤ K ∧ 1 ≤ L ∧ 1 ≤ M ∧ 8 * (K + L + M) + 8 ≤ 17179869184)
  | _ => none
set_option maxHeartbeats 16000000 in
theorem s8At_ok : SpecOk Tryz.prog s8At := SpecOk.mk' Tryz.func15 (by kernel_rfl) (by kernel_rfl) (spN_at fun l r p h hp => by
  split at h
  · rename_i o1 o2 o3 K d1 d2 d3 L s M
    cases h
    have i0 : ((0 : Int) : Rat) / ((1 : Int) : Rat) = 0 := by decide +kernel
    have i1 : ((1 : Int) : Rat) / ((1 : Int) : Rat) = 1 := by decide +kernel
    have ih : ((1 : Int) : Rat) / ((2 : Int) : Rat) = 1 / 2 := by decide +kernel
    refine At.ok (fuel := 60) (hs := []) S15_ok Tryz.func15 (by kernel_rfl) ?_
    simp (maxSteps := 10000000) only [Tryz.f15, go_sem, i0, i1, ih, Nat.reduceAdd, Nat.reduceSub, Nat.reduceMul, Int.reduceAdd, Int.reduceSub, Int.reduceToNat]
    and_intros
    all_goals first | with_reducible rfl | omega | (grind)
  · cases h)
@[go_sem] def s8Point : Spec := spN 13 fun l => match l with
  | [([a1, a2, a3, b1, b2, b3, c1, c2, c3], K), ([u], L), ([v], M)] => some (⟨.inl (cn [a1 + u * (b1 - a1) + v * (c1 - a1), a2 + u * (b2 - a2) + v * (c2 - a2), a3 + u * (b3 - a3) + v * (c3 - a3)] (5 * K + L + M + 4))⟩, 1 ≤ K ∧ 1 ≤ L ∧ 1 ≤ M ∧ 16 * (K + L + M) + 16 ≤ 17179869184)
  | _ => none
set_option maxHeartbeats 16000000 in
theorem s8Point_ok : SpecOk Tryz.prog s8Point := SpecOk.mk' Tryz.func13 (by kernel_rfl) (by kernel_rfl) (spN_at fun l r p h hp => by
  split at h
  · rename_i a1 a2 a3 b1 b2 b3 c1 c2 c3 K u L v M
    cases h
    have i0 : ((0 : Int) : Rat) / ((1 : Int) : Rat) = 0 := by decide +kernel
    have i1 : ((1 : Int) : Rat) / ((1 : Int) : Rat) = 1 := by decide +kernel
    have ih : ((1 : Int) : Rat) / ((2 : Int) : Rat) = 1 / 2 := by decide +kernel
    refine At.ok (fuel := 60) (hs := []) S15_ok Tryz.func13 (by kernel_rfl) ?_
    simp (maxSteps := 10000000) only [Tryz.f13, go_sem, i0, i1, ih, Nat.reduceAdd, Nat.reduceSub, Nat.reduceMul, Int.reduceAdd, Int.reduceSub, Int.reduceToNat]
    and_intros
    all_goals first | with_reducible rfl | omega | (grind)
  · cases h)
@[go_sem] def S16 : List Spec := s8Is :: s8None :: s8Normal :: s8At :: s8Point :: S15
theorem S16_ok : AllOk Tryz.prog S16 := ⟨s8Is_ok, s8None_ok, s8Normal_ok, s8At_ok, s8Point_ok, S15_ok⟩
@[go_sem] def s8Unit : Spec := spN 6 fun l => match l with
  | [([a1, a2, a3, b1, b2, b3, c1, c2, c3], K)] => some (⟨.inr [cn [uv (((b2 - a2) * (c3 - a3) - (b3 - a3) * (c2 - a2)) * ((b2 - a2) * (c3 - a3) - (b3 - a3) * (c2 - a2)) + ((b3 - a3) * (c1 - a1) - (b1 - a1) * (c3 - a3)) * ((b3 - a3) * (c1 - a1) - (b1 - a1) * (c3 - a3)) + ((b1 - a1) * (c2 - a2) - (b2 - a2) * (c1 - a1)) * ((b1 - a1) * (c2 - a2) - (b2 - a2) * (c1 - a1))) ((b2 - a2) * (c3 - a3) - (b3 - a3) * (c2 - a2)), uv (((b2 - a2) * (c3 - a3) - (b3 - a3) * (c2 - a2)) * ((b2 - a2) * (c3 - a3) - (b3 - a3) * (c2 - a2)) + ((b3 - a3) * (c1 - a1) - (b1 - a1) * (c3 - a3)) * ((b3 - a3) * (c1 - a1) - (b1 - a1) * (c3 - a3)) + ((b1 - a1) * (c2 - a2) - (b2 - a2) * (c1 - a1)) * ((b1 - a1) * (c2 - a2) - (b2 - a2) * (c1 - a1))) ((b3 - a3) * (c1 - a1) - (b1 - a1) * (c3 - a3)), uv (((b2 - a2) * (c3 - a3) - (b3 - a3) * (c2 - a2)) * ((b2 - a2) * (c3 - a3) - (b3 - a3) * (c2 - a2)) + ((b3 - a3) * (c1 - a1) - (b1 - a1) * (c3 - a3)) * ((b3 - a3) * (c1 - a1) - (b1 - a1) * (c3 - a3)) + ((b1 - a1) * (c2 - a2) - (b2 - a2) * (c1 - a1)) * ((b1 - a1) * (c2 - a2) - (b2 - a2) * (c1 - a1))) ((b1 - a1) * (c2 - a2) - (b2 - a2) * (c1 - a1))] (160 * K + 120), cn [1 / 2 * ul (((b2 - a2) * (c3 - a3) - (b3 - a3) * (c2 - a2)) * ((b2 - a2) * (c3 - a3) - (b3 - a3) * (c2 - a2)) + ((b3 - a3) * (c1 - a1) - (b1 - a1) * (c3 - a3)) * ((b3 - a3) * (c1 - a1) - (b1 - a1) * (c3 - a3)) + ((b1 - a1) * (c2 - a2) - (b2 - a2) * (c1 - a1)) * ((b1 - a1) * (c2 - a2) - (b2 - a2) * (c1 - a1)))] (321 * K + 243), ⟨some (.inl (.bool (uok (((b2 - a2) * (c3 - a3) - (b3 - a3) * (c2 - a2)) * ((b2 - a2) * (c3 - a3) - (b3 - a3) * (c2 - a2)) + ((b3 - a3) * (c1 - a1) - (b1 - a1) * (c3 - a3)) * ((b3 - a3) * (c1 - a1) - (b1 - a1) * (c3 - a3)) + ((b1 - a1) * (c2 - a2) - (b2 - a2) * (c1 - a1)) * ((b1 - a1) * (c2 - a2) - (b2 - a2) * (c1 - a1))))))⟩]⟩, 1 ≤ K ∧ 1024 * K + 1024 ≤ 17179869184)
  | _ => none
set_option maxHeartbeats 16000000 in
theorem s8Unit_ok : SpecOk Tryz.prog s8Unit := SpecOk.mk' Tryz.func6 (by kernel_rfl) (by kernel_rfl) (spN_at fun l r p h hp => by
  split at h
  · rename_i a1 a2 a3 b1 b2 b3 c1 c2 c3 K
    cases h
    have i0 : ((0 : Int) : Rat) / ((1 : Int) : Rat) = 0 := by decide +kernel
    have i1 : ((1 : Int) : Rat) / ((1 : Int) : Rat) = 1 := by decide +kernel
    have ih : ((1 : Int) : Rat) / ((2 : Int) : Rat) = 1 / 2 := by decide +kernel
    cases hu : uok (((b2 - a2) * (c3 - a3) - (b3 - a3) * (c2 - a2)) * ((b2 - a2) * (c3 - a3) - (b3 - a3) * (c2 - a2)) + ((b3 - a3) * (c1 - a1) - (b1 - a1) * (c3 - a3)) * ((b3 - a3) * (c1 - a1) - (b1 - a1) * (c3 - a3)) + ((b1 - a1) * (c2 - a2) - (b2 - a2) * (c1 - a1)) * ((b1 - a1) * (c2 - a2) - (b2 - a2) * (c1 - a1))) with
    | true =>
      refine At.ok (fuel := 60) (hs := [true]) S16_ok Tryz.func6 (by kernel_rfl) ?_
      simp (maxSteps := 10000000) only [Tryz.f6, go_sem, i0, i1, ih, hu, Nat.reduceAdd, Nat.reduceSub, Nat.reduceMul, Int.reduceAdd, Int.reduceSub, Int.reduceToNat]
      and_intros
      all_goals first | with_reducible rfl | omega | (grind)
    | false =>
      refine At.ok (fuel := 60) (hs := [false]) S16_ok Tryz.func6 (by kernel_rfl) ?_
      simp (maxSteps := 10000000) only [Tryz.f6, go_sem, i0, i1, ih, hu, Nat.reduceAdd, Nat.reduceSub, Nat.reduceMul, Int.reduceAdd, Int.reduceSub, Int.reduceToNat]
      and_intros
      all_goals first | with_reducible rfl | omega | (grind)
  · cases h)
@[go_sem] def s8Hit : Spec := spN 17 fun l => match l with
  | [([o1, o2, o3], K), ([d1, d2, d3], L), ([a1, a2, a3, b1, b2, b3, c1, c2, c3], M)] => some (⟨.inr [cn [ht ((((b2 - a2) * (c3 - a3) - (b3 - a3) * (c2 - a2)) * (a1 - o1) + ((b3 - a3) * (c1 - a1) - (b1 - a1) * (c3 - a3)) * (a2 - o2) + ((b1 - a1) * (c2 - a2) - (b2 - a2) * (c1 - a1)) * (a3 - o3)) / (((b2 - a2) * (c3 - a3) - (b3 - a3) * (c2 - a2)) * d1 + ((b3 - a3) * (c1 - a1) - (b1 - a1) * (c3 - a3)) * d2 + ((b1 - a1) * (c2 - a2) - (b2 - a2) * (c1 - a1)) * d3)) ((((a2 - o2) * d3 - (a3 - o3) * d2) * (c1 - a1) + ((a3 - o3) * d1 - (a1 - o1) * d3) * (c2 - a2) + ((a1 - o1) * d2 - (a2 - o2) * d1) * (c3 - a3)) / (((b2 - a2) * (c3 - a3) - (b3 - a3) * (c2 - a2)) * d1 + ((b3 - a3) * (c1 - a1) - (b1 - a1) * (c3 - a3)) * d2 + ((b1 - a1) * (c2 - a2) - (b2 - a2) * (c1 - a1)) * d3)) ((((a2 - o2) * d3 - (a3 - o3) * d2) * (b1 - a1) + ((a3 - o3) * d1 - (a1 - o1) * d3) * (b2 - a2) + ((a1 - o1) * d2 - (a2 - o2) * d1) * (b3 - a3)) / (-(((b2 - a2) * (c3 - a3) - (b3 - a3) * (c2 - a2)) * d1 + ((b3 - a3) * (c1 - a1) - (b1 - a1) * (c3 - a3)) * d2 + ((b1 - a1) * (c2 - a2) - (b2 - a2) * (c1 - a1)) * d3))) ((((b2 - a2) * (c3 - a3) - (b3 - a3) * (c2 - a2)) * (a1 - o1) + ((b3 - a3) * (c1 - a1) - (b1 - a1) * (c3 - a3)) * (a2 - o2) + ((b1 - a1) * (c2 - a2) - (b2 - a2) * (c1 - a1)) * (a3 - o3)) / (((b2 - a2) * (c3 - a3) - (b3 - a3) * (c2 - a2)) * d1 + ((b3 - a3) * (c1 - a1) - (b1 - a1) * (c3 - a3)) * d2 + ((b1 - a1) * (c2 - a2) - (b2 - a2) * (c1 - a1)) * d3)), ht ((((b2 - a2) * (c3 - a3) - (b3 - a3) * (c2 - a2)) * (a1 - o1) + ((b3 - a3) * (c1 - a1) - (b1 - a1) * (c3 - a3)) * (a2 - o2) + ((b1 - a1) * (c2 - a2) - (b2 - a2) * (c1 - a1)) * (a3 - o3)) / (((b2 - a2) * (c3 - a3) - (b3 - a3) * (c2 - a2)) * d1 + ((b3 - a3) * (c1 - a1) - (b1 - a1) * (c3 - a3)) * d2 + ((b1 - a1) * (c2 - a2) - (b2 - a2) * (c1 - a1)) * d3)) ((((a2 - o2) * d3 - (a3 - o3) * d2) * (c1 - a1) + ((a3 - o3) * d1 - (a1 - o1) * d3) * (c2 - a2) + ((a1 - o1) * d2 - (a2 - o2) * d1) * (c3 - a3)) / (((b2 - a2) * (c3 - a3) - (b3 - a3) * (c2 - a2)) * d1 + ((b3 - a3) * (c1 - a1) - (b1 - a1) * (c3 - a3)) * d2 + ((b1 - a1) * (c2 - a2) - (b2 - a2) * (c1 - a1)) * d3)) ((((a2 - o2) * d3 - (a3 - o3) * d2) * (b1 - a1) + ((a3 - o3) * d1 - (a1 - o1) * d3) * (b2 - a2) + ((a1 - o1) * d2 - (a2 - o2) * d1) * (b3 - a3)) / (-(((b2 - a2) * (c3 - a3) - (b3 - a3) * (c2 - a2)) * d1 + ((b3 - a3) * (c1 - a1) - (b1 - a1) * (c3 - a3)) * d2 + ((b1 - a1) * (c2 - a2) - (b2 - a2) * (c1 - a1)) * d3))) ((((a2 - o2) * d3 - (a3 - o3) * d2) * (c1 - a1) + ((a3 - o3) * d1 - (a1 - o1) * d3) * (c2 - a2) + ((a1 - o1) * d2 - (a2 - o2) * d1) * (c3 - a3)) / (((b2 - a2) * (c3 - a3) - (b3 - a3) * (c2 - a2)) * d1 + ((b3 - a3) * (c1 - a1) - (b1 - a1) * (c3 - a3)) * d2 + ((b1 - a1) * (c2 - a2) - (b2 - a2) * (c1 - a1)) * d3)), ht ((((b2 - a2) * (c3 - a3) - (b3 - a3) * (c2 - a2)) * (a1 - o1) + ((b3 - a3) * (c1 - a1) - (b1 - a1) * (c3 - a3)) * (a2 - o2) + ((b1 - a1) * (c2 - a2) - (b2 - a2) * (c1 - a1)) * (a3 - o3)) / (((b2 - a2) * (c3 - a3) - (b3 - a3) * (c2 - a2)) * d1 + ((b3 - a3) * (c1 - a1) - (b1 - a1) * (c3 - a3)) * d2 + ((b1 - a1) * (c2 - a2) - (b2 - a2) * (c1 - a1)) * d3)) ((((a2 - o2) * d3 - (a3 - o3) * d2) * (c1 - a1) + ((a3 - o3) * d1 - (a1 - o1) * d3) * (c2 - a2) + ((a1 - o1) * d2 - (a2 - o2) * d1) * (c3 - a3)) / (((b2 - a2) * (c3 - a3) - (b3 - a3) * (c2 - a2)) * d1 + ((b3 - a3) * (c1 - a1) - (b1 - a1) * (c3 - a3)) * d2 + ((b1 - a1) * (c2 - a2) - (b2 - a2) * (c1 - a1)) * d3)) ((((a2 - o2) * d3 - (a3 - o3) * d2) * (b1 - a1) + ((a3 - o3) * d1 - (a1 - o1) * d3) * (b2 - a2) + ((a1 - o1) * d2 - (a2 - o2) * d1) * (b3 - a3)) / (-(((b2 - a2) * (c3 - a3) - (b3 - a3) * (c2 - a2)) * d1 + ((b3 - a3) * (c1 - a1) - (b1 - a1) * (c3 - a3)) * d2 + ((b1 - a1) * (c2 - a2) - (b2 - a2) * (c1 - a1)) * d3))) ((((a2 - o2) * d3 - (a3 - o3) * d2) * (b1 - a1) + ((a3 - o3) * d1 - (a1 - o1) * d3) * (b2 - a2) + ((a1 - o1) * d2 - (a2 - o2) * d1) * (b3 - a3)) / (-(((b2 - a2) * (c3 - a3) - (b3 - a3) * (c2 - a2)) * d1 + ((b3 - a3) * (c1 - a1) - (b1 - a1) * (c3 - a3)) * d2 + ((b1 - a1) * (c2 - a2) - (b2 - a2) * (c1 - a1)) * d3)))] (2048 * (M + K + L + 1)), ⟨some (.inl (.bool (htOk ((((b2 - a2) * (c3 - a3) - (b3 - a3) * (c2 - a2)) * (a1 - o1) + ((b3 - a3) * (c1 - a1) - (b1 - a1) * (c3 - a3)) * (a2 - o2) + ((b1 - a1) * (c2 - a2) - (b2 - a2) * (c1 - a1)) * (a3 - o3)) / (((b2 - a2) * (c3 - a3) - (b3 - a3) * (c2 - a2)) * d1 + ((b3 - a3) * (c1 - a1) - (b1 - a1) * (c3 - a3)) * d2 + ((b1 - a1) * (c2 - a2) - (b2 - a2) * (c1 - a1)) * d3)) ((((a2 - o2) * d3 - (a3 - o3) * d2) * (c1 - a1) + ((a3 - o3) * d1 - (a1 - o1) * d3) * (c2 - a2) + ((a1 - o1) * d2 - (a2 - o2) * d1) * (c3 - a3)) / (((b2 - a2) * (c3 - a3) - (b3 - a3) * (c2 - a2)) * d1 + ((b3 - a3) * (c1 - a1) - (b1 - a1) * (c3 - a3)) * d2 + ((b1 - a1) * (c2 - a2) - (b2 - a2) * (c1 - a1)) * d3)) ((((a2 - o2) * d3 - (a3 - o3) * d2) * (b1 - a1) + ((a3 - o3) * d1 - (a1 - o1) * d3) * (b2 - a2) + ((a1 - o1) * d2 - (a2 - o2) * d1) * (b3 - a3)) / (-(((b2 - a2) * (c3 - a3) - (b3 - a3) * (c2 - a2)) * d1 + ((b3 - a3) * (c1 - a1) - (b1 - a1) * (c3 - a3)) * d2 + ((b1 - a1) * (c2 - a2) - (b2 - a2) * (c1 - a1)) * d3))))))⟩]⟩, 1 ≤ K ∧ 1 ≤ L ∧ 1 ≤ M ∧ 4096 * (M + K + L) + 4096 ≤ 17179869184)
  | _ => none
set_option maxHeartbeats 16000000 in
theorem s8Hit_ok : SpecOk Tryz.prog s8Hit := SpecOk.mk' Tryz.func17 (by kernel_rfl) (by kernel_rfl) (spN_at fun l r p h hp => by
  split at h
  · rename_i o1 o2 o3 K d1 d2 d3 L a1 a2 a3 b1 b2 b3 c1 c2 c3 M
    cases h
    have i0 : ((0 : Int) : Rat) / ((1 : Int) : Rat) = 0 := by decide +kernel
    have i1 : ((1 : Int) : Rat) / ((1 : Int) : Rat) = 1 := by decide +kernel
    have ih : ((1 : Int) : Rat) / ((2 : Int) : Rat) = 1 / 2 := by decide +kernel
    by_cases hD : ((b2 - a2) * (c3 - a3) - (b3 - a3) * (c2 - a2)) * d1 + ((b3 - a3) * (c1 - a1) - (b1 - a1) * (c3 - a3)) * d2 + ((b1 - a1) * (c2 - a2) - (b2 - a2) * (c1 - a1)) * d3 = 0
    · have hz : (((b2 - a2) * (c3 - a3) - (b3 - a3) * (c2 - a2)) * (a1 - o1) + ((b3 - a3) * (c1 - a1) - (b1 - a1) * (c3 - a3)) * (a2 - o2) + ((b1 - a1) * (c2 - a2) - (b2 - a2) * (c1 - a1)) * (a3 - o3)) / (((b2 - a2) * (c3 - a3) - (b3 - a3) * (c2 - a2)) * d1 + ((b3 - a3) * (c1 - a1) - (b1 - a1) * (c3 - a3)) * d2 + ((b1 - a1) * (c2 - a2) - (b2 - a2) * (c1 - a1)) * d3) = 0 := by rw [hD]; exact div_z _
      have hk : htOk ((((b2 - a2) * (c3 - a3) - (b3 - a3) * (c2 - a2)) * (a1 - o1) + ((b3 - a3) * (c1 - a1) - (b1 - a1) * (c3 - a3)) * (a2 - o2) + ((b1 - a1) * (c2 - a2) - (b2 - a2) * (c1 - a1)) * (a3 - o3)) / (((b2 - a2) * (c3 - a3) - (b3 - a3) * (c2 - a2)) * d1 + ((b3 - a3) * (c1 - a1) - (b1 - a1) * (c3 - a3)) * d2 + ((b1 - a1) * (c2 - a2) - (b2 - a2) * (c1 - a1)) * d3)) ((((a2 - o2) * d3 - (a3 - o3) * d2) * (c1 - a1) + ((a3 - o3) * d1 - (a1 - o1) * d3) * (c2 - a2) + ((a1 - o1) * d2 - (a2 - o2) * d1) * (c3 - a3)) / (((b2 - a2) * (c3 - a3) - (b3 - a3) * (c2 - a2)) * d1 + ((b3 - a3) * (c1 - a1) - (b1 - a1) * (c3 - a3)) * d2 + ((b1 - a1) * (c2 - a2) - (b2 - a2) * (c1 - a1)) * d3)) ((((a2 - o2) * d3 - (a3 - o3) * d2) * (b1 - a1) + ((a3 - o3) * d1 - (a1 - o1) * d3) * (b2 - a2) + ((a1 - o1) * d2 - (a2 - o2) * d1) * (b3 - a3)) / (-(((b2 - a2) * (c3 - a3) - (b3 - a3) * (c2 - a2)) * d1 + ((b3 - a3) * (c1 - a1) - (b1 - a1) * (c3 - a3)) * d2 + ((b1 - a1) * (c2 - a2) - (b2 - a2) * (c1 - a1)) * d3))) = false := no_s (by rw [hz]; exact Rat.le_refl)
      have y1 := ht_no hk
      rw [hk, y1, y1, y1]
      refine At.ok (fuel := 60) (hs := [true]) S16_ok Tryz.func17 (by kernel_rfl) ?_
      simp (maxSteps := 10000000) only [Tryz.f17, go_sem, i0, i1, ih, decide_eq_true_eq, decide_eq_false_iff_not, ne_eq, not_true_eq_false, not_false_eq_true, Decidable.not_not, beq_iff_eq, beq_eq_false_iff_ne, bne_eq_false_iff_eq, bne_iff_ne, qsgn_zero, qsgn_le, qsgn_lt, qsgn_gt, hD, Nat.reduceAdd, Nat.reduceSub, Nat.reduceMul, Int.reduceAdd, Int.reduceSub, Int.reduceToNat]
      and_intros
      all_goals first | with_reducible rfl | omega | (grind)
    have hs := Rat.div_mul_cancel (a := ((b2 - a2) * (c3 - a3) - (b3 - a3) * (c2 - a2)) * (a1 - o1) + ((b3 - a3) * (c1 - a1) - (b1 - a1) * (c3 - a3)) * (a2 - o2) + ((b1 - a1) * (c2 - a2) - (b2 - a2) * (c1 - a1)) * (a3 - o3)) hD
    have hu : ((((o2 + ((((b2 - a2) * (c3 - a3) - (b3 - a3) * (c2 - a2)) * (a1 - o1) + ((b3 - a3) * (c1 - a1) - (b1 - a1) * (c3 - a3)) * (a2 - o2) + ((b1 - a1) * (c2 - a2) - (b2 - a2) * (c1 - a1)) * (a3 - o3)) / (((b2 - a2) * (c3 - a3) - (b3 - a3) * (c2 - a2)) * d1 + ((b3 - a3) * (c1 - a1) - (b1 - a1) * (c3 - a3)) * d2 + ((b1 - a1) * (c2 - a2) - (b2 - a2) * (c1 - a1)) * d3)) * d2) - a2) * (c3 - a3) - ((o3 + ((((b2 - a2) * (c3 - a3) - (b3 - a3) * (c2 - a2)) * (a1 - o1) + ((b3 - a3) * (c1 - a1) - (b1 - a1) * (c3 - a3)) * (a2 - o2) + ((b1 - a1) * (c2 - a2) - (b2 - a2) * (c1 - a1)) * (a3 - o3)) / (((b2 - a2) * (c3 - a3) - (b3 - a3) * (c2 - a2)) * d1 + ((b3 - a3) * (c1 - a1) - (b1 - a1) * (c3 - a3)) * d2 + ((b1 - a1) * (c2 - a2) - (b2 - a2) * (c1 - a1)) * d3)) * d3) - a3) * (c2 - a2)) * ((b2 - a2) * (c3 - a3) - (b3 - a3) * (c2 - a2)) + (((o3 + ((((b2 - a2) * (c3 - a3) - (b3 - a3) * (c2 - a2)) * (a1 - o1) + ((b3 - a3) * (c1 - a1) - (b1 - a1) * (c3 - a3)) * (a2 - o2) + ((b1 - a1) * (c2 - a2) - (b2 - a2) * (c1 - a1)) * (a3 - o3)) / (((b2 - a2) * (c3 - a3) - (b3 - a3) * (c2 - a2)) * d1 + ((b3 - a3) * (c1 - a1) - (b1 - a1) * (c3 - a3)) * d2 + ((b1 - a1) * (c2 - a2) - (b2 - a2) * (c1 - a1)) * d3)) * d3) - a3) * (c1 - a1) - ((o1 + ((((b2 - a2) * (c3 - a3) - (b3 - a3) * (c2 - a2)) * (a1 - o1) + ((b3 - a3) * (c1 - a1) - (b1 - a1) * (c3 - a3)) * (a2 - o2) + ((b1 - a1) * (c2 - a2) - (b2 - a2) * (c1 - a1)) * (a3 - o3)) / (((b2 - a2) * (c3 - a3) - (b3 - a3) * (c2 - a2)) * d1 + ((b3 - a3) * (c1 - a1) - (b1 - a1) * (c3 - a3)) * d2 + ((b1 - a1) * (c2 - a2) - (b2 - a2) * (c1 - a1)) * d3)) * d1) - a1) * (c3 - a3)) * ((b3 - a3) * (c1 - a1) - (b1 - a1) * (c3 - a3)) + (((o1 + ((((b2 - a2) * (c3 - a3) - (b3 - a3) * (c2 - a2)) * (a1 - o1) + ((b3 - a3) * (c1 - a1) - (b1 - a1) * (c3 - a3)) * (a2 - o2) + ((b1 - a1) * (c2 - a2) - (b2 - a2) * (c1 - a1)) * (a3 - o3)) / (((b2 - a2) * (c3 - a3) - (b3 - a3) * (c2 - a2)) * d1 + ((b3 - a3) * (c1 - a1) - (b1 - a1) * (c3 - a3)) * d2 + ((b1 - a1) * (c2 - a2) - (b2 - a2) * (c1 - a1)) * d3)) * d1) - a1) * (c2 - a2) - ((o2 + ((((b2 - a2) * (c3 - a3) - (b3 - a3) * (c2 - a2)) * (a1 - o1) + ((b3 - a3) * (c1 - a1) - (b1 - a1) * (c3 - a3)) * (a2 - o2) + ((b1 - a1) * (c2 - a2) - (b2 - a2) * (c1 - a1)) * (a3 - o3)) / (((b2 - a2) * (c3 - a3) - (b3 - a3) * (c2 - a2)) * d1 + ((b3 - a3) * (c1 - a1) - (b1 - a1) * (c3 - a3)) * d2 + ((b1 - a1) * (c2 - a2) - (b2 - a2) * (c1 - a1)) * d3)) * d2) - a2) * (c1 - a1)) * ((b1 - a1) * (c2 - a2) - (b2 - a2) * (c1 - a1))) / (((b2 - a2) * (c3 - a3) - (b3 - a3) * (c2 - a2)) * ((b2 - a2) * (c3 - a3) - (b3 - a3) * (c2 - a2)) + ((b3 - a3) * (c1 - a1) - (b1 - a1) * (c3 - a3)) * ((b3 - a3) * (c1 - a1) - (b1 - a1) * (c3 - a3)) + ((b1 - a1) * (c2 - a2) - (b2 - a2) * (c1 - a1)) * ((b1 - a1) * (c2 - a2) - (b2 - a2) * (c1 - a1))) = (((a2 - o2) * d3 - (a3 - o3) * d2) * (c1 - a1) + ((a3 - o3) * d1 - (a1 - o1) * d3) * (c2 - a2) + ((a1 - o1) * d2 - (a2 - o2) * d1) * (c3 - a3)) / (((b2 - a2) * (c3 - a3) - (b3 - a3) * (c2 - a2)) * d1 + ((b3 - a3) * (c1 - a1) - (b1 - a1) * (c3 - a3)) * d2 + ((b1 - a1) * (c2 - a2) - (b2 - a2) * (c1 - a1)) * d3) := small_tri ((b2 - a2) * (c3 - a3) - (b3 - a3) * (c2 - a2)) ((b3 - a3) * (c1 - a1) - (b1 - a1) * (c3 - a3)) ((b1 - a1) * (c2 - a2) - (b2 - a2) * (c1 - a1)) (a1 - o1) (a2 - o2) (a3 - o3) d1 d2 d3 (c1 - a1) (c2 - a2) (c3 - a3) _ _ _ _ (cross_r (b1 - a1) (b2 - a2) (b3 - a3) (c1 - a1) (c2 - a2) (c3 - a3)) hD hs (way_eq _ _ _ _) (way_eq _ _ _ _) (way_eq _ _ _ _)
    have hv : (((b2 - a2) * ((o3 + ((((b2 - a2) * (c3 - a3) - (b3 - a3) * (c2 - a2)) * (a1 - o1) + ((b3 - a3) * (c1 - a1) - (b1 - a1) * (c3 - a3)) * (a2 - o2) + ((b1 - a1) * (c2 - a2) - (b2 - a2) * (c1 - a1)) * (a3 - o3)) / (((b2 - a2) * (c3 - a3) - (b3 - a3) * (c2 - a2)) * d1 + ((b3 - a3) * (c1 - a1) - (b1 - a1) * (c3 - a3)) * d2 + ((b1 - a1) * (c2 - a2) - (b2 - a2) * (c1 - a1)) * d3)) * d3) - a3) - (b3 - a3) * ((o2 + ((((b2 - a2) * (c3 - a3) - (b3 - a3) * (c2 - a2)) * (a1 - o1) + ((b3 - a3) * (c1 - a1) - (b1 - a1) * (c3 - a3)) * (a2 - o2) + ((b1 - a1) * (c2 - a2) - (b2 - a2) * (c1 - a1)) * (a3 - o3)) / (((b2 - a2) * (c3 - a3) - (b3 - a3) * (c2 - a2)) * d1 + ((b3 - a3) * (c1 - a1) - (b1 - a1) * (c3 - a3)) * d2 + ((b1 - a1) * (c2 - a2) - (b2 - a2) * (c1 - a1)) * d3)) * d2) - a2)) * ((b2 - a2) * (c3 - a3) - (b3 - a3) * (c2 - a2)) + ((b3 - a3) * ((o1 + ((((b2 - a2) * (c3 - a3) - (b3 - a3) * (c2 - a2)) * (a1 - o1) + ((b3 - a3) * (c1 - a1) - (b1 - a1) * (c3 - a3)) * (a2 - o2) + ((b1 - a1) * (c2 - a2) - (b2 - a2) * (c1 - a1)) * (a3 - o3)) / (((b2 - a2) * (c3 - a3) - (b3 - a3) * (c2 - a2)) * d1 + ((b3 - a3) * (c1 - a1) - (b1 - a1) * (c3 - a3)) * d2 + ((b1 - a1) * (c2 - a2) - (b2 - a2) * (c1 - a1)) * d3)) * d1) - a1) - (b1 - a1) * ((o3 + ((((b2 - a2) * (c3 - a3) - (b3 - a3) * (c2 - a2)) * (a1 - o1) + ((b3 - a3) * (c1 - a1) - (b1 - a1) * (c3 - a3)) * (a2 - o2) + ((b1 - a1) * (c2 - a2) - (b2 - a2) * (c1 - a1)) * (a3 - o3)) / (((b2 - a2) * (c3 - a3) - (b3 - a3) * (c2 - a2)) * d1 + ((b3 - a3) * (c1 - a1) - (b1 - a1) * (c3 - a3)) * d2 + ((b1 - a1) * (c2 - a2) - (b2 - a2) * (c1 - a1)) * d3)) * d3) - a3)) * ((b3 - a3) * (c1 - a1) - (b1 - a1) * (c3 - a3)) + ((b1 - a1) * ((o2 + ((((b2 - a2) * (c3 - a3) - (b3 - a3) * (c2 - a2)) * (a1 - o1) + ((b3 - a3) * (c1 - a1) - (b1 - a1) * (c3 - a3)) * (a2 - o2) + ((b1 - a1) * (c2 - a2) - (b2 - a2) * (c1 - a1)) * (a3 - o3)) / (((b2 - a2) * (c3 - a3) - (b3 - a3) * (c2 - a2)) * d1 + ((b3 - a3) * (c1 - a1) - (b1 - a1) * (c3 - a3)) * d2 + ((b1 - a1) * (c2 - a2) - (b2 - a2) * (c1 - a1)) * d3)) * d2) - a2) - (b2 - a2) * ((o1 + ((((b2 - a2) * (c3 - a3) - (b3 - a3) * (c2 - a2)) * (a1 - o1) + ((b3 - a3) * (c1 - a1) - (b1 - a1) * (c3 - a3)) * (a2 - o2) + ((b1 - a1) * (c2 - a2) - (b2 - a2) * (c1 - a1)) * (a3 - o3)) / (((b2 - a2) * (c3 - a3) - (b3 - a3) * (c2 - a2)) * d1 + ((b3 - a3) * (c1 - a1) - (b1 - a1) * (c3 - a3)) * d2 + ((b1 - a1) * (c2 - a2) - (b2 - a2) * (c1 - a1)) * d3)) * d1) - a1)) * ((b1 - a1) * (c2 - a2) - (b2 - a2) * (c1 - a1))) / (((b2 - a2) * (c3 - a3) - (b3 - a3) * (c2 - a2)) * ((b2 - a2) * (c3 - a3) - (b3 - a3) * (c2 - a2)) + ((b3 - a3) * (c1 - a1) - (b1 - a1) * (c3 - a3)) * ((b3 - a3) * (c1 - a1) - (b1 - a1) * (c3 - a3)) + ((b1 - a1) * (c2 - a2) - (b2 - a2) * (c1 - a1)) * ((b1 - a1) * (c2 - a2) - (b2 - a2) * (c1 - a1))) = (((a2 - o2) * d3 - (a3 - o3) * d2) * (b1 - a1) + ((a3 - o3) * d1 - (a1 - o1) * d3) * (b2 - a2) + ((a1 - o1) * d2 - (a2 - o2) * d1) * (b3 - a3)) / (-(((b2 - a2) * (c3 - a3) - (b3 - a3) * (c2 - a2)) * d1 + ((b3 - a3) * (c1 - a1) - (b1 - a1) * (c3 - a3)) * d2 + ((b1 - a1) * (c2 - a2) - (b2 - a2) * (c1 - a1)) * d3)) := small_tri_v ((b2 - a2) * (c3 - a3) - (b3 - a3) * (c2 - a2)) ((b3 - a3) * (c1 - a1) - (b1 - a1) * (c3 - a3)) ((b1 - a1) * (c2 - a2) - (b2 - a2) * (c1 - a1)) (a1 - o1) (a2 - o2) (a3 - o3) d1 d2 d3 (b1 - a1) (b2 - a2) (b3 - a3) _ _ _ _ (cross_l (b1 - a1) (b2 - a2) (b3 - a3) (c1 - a1) (c2 - a2) (c3 - a3)) hD hs (way_eq _ _ _ _) (way_eq _ _ _ _) (way_eq _ _ _ _)
    clear hs
    by_cases h1 : (((b2 - a2) * (c3 - a3) - (b3 - a3) * (c2 - a2)) * (a1 - o1) + ((b3 - a3) * (c1 - a1) - (b1 - a1) * (c3 - a3)) * (a2 - o2) + ((b1 - a1) * (c2 - a2) - (b2 - a2) * (c1 - a1)) * (a3 - o3)) / (((b2 - a2) * (c3 - a3) - (b3 - a3) * (c2 - a2)) * d1 + ((b3 - a3) * (c1 - a1) - (b1 - a1) * (c3 - a3)) * d2 + ((b1 - a1) * (c2 - a2) - (b2 - a2) * (c1 - a1)) * d3) ≤ 0
    · have hk : htOk ((((b2 - a2) * (c3 - a3) - (b3 - a3) * (c2 - a2)) * (a1 - o1) + ((b3 - a3) * (c1 - a1) - (b1 - a1) * (c3 - a3)) * (a2 - o2) + ((b1 - a1) * (c2 - a2) - (b2 - a2) * (c1 - a1)) * (a3 - o3)) / (((b2 - a2) * (c3 - a3) - (b3 - a3) * (c2 - a2)) * d1 + ((b3 - a3) * (c1 - a1) - (b1 - a1) * (c3 - a3)) * d2 + ((b1 - a1) * (c2 - a2) - (b2 - a2) * (c1 - a1)) * d3)) ((((a2 - o2) * d3 - (a3 - o3) * d2) * (c1 - a1) + ((a3 - o3) * d1 - (a1 - o1) * d3) * (c2 - a2) + ((a1 - o1) * d2 - (a2 - o2) * d1) * (c3 - a3)) / (((b2 - a2) * (c3 - a3) - (b3 - a3) * (c2 - a2)) * d1 + ((b3 - a3) * (c1 - a1) - (b1 - a1) * (c3 - a3)) * d2 + ((b1 - a1) * (c2 - a2) - (b2 - a2) * (c1 - a1)) * d3)) ((((a2 - o2) * d3 - (a3 - o3) * d2) * (b1 - a1) + ((a3 - o3) * d1 - (a1 - o1) * d3) * (b2 - a2) + ((a1 - o1) * d2 - (a2 - o2) * d1) * (b3 - a3)) / (-(((b2 - a2) * (c3 - a3) - (b3 - a3) * (c2 - a2)) * d1 + ((b3 - a3) * (c1 - a1) - (b1 - a1) * (c3 - a3)) * d2 + ((b1 - a1) * (c2 - a2) - (b2 - a2) * (c1 - a1)) * d3))) = false := no_s h1
      have y1 := ht_no hk
      rw [hk, y1, y1, y1]
      refine At.ok (fuel := 60) (hs := [false, true]) S16_ok Tryz.func17 (by kernel_rfl) ?_
      simp (maxSteps := 10000000) only [Tryz.f17, go_sem, i0, i1, ih, decide_eq_true_eq, decide_eq_false_iff_not, ne_eq, not_true_eq_false, not_false_eq_true, Decidable.not_not, beq_iff_eq, beq_eq_false_iff_ne, bne_eq_false_iff_eq, bne_iff_ne, qsgn_zero, qsgn_le, qsgn_lt, qsgn_gt, h1, hD, hu, hv, Nat.reduceAdd, Nat.reduceSub, Nat.reduceMul, Int.reduceAdd, Int.reduceSub, Int.reduceToNat]
      and_intros
      all_goals first | with_reducible rfl | omega | (grind)
    by_cases h2 : (((a2 - o2) * d3 - (a3 - o3) * d2) * (c1 - a1) + ((a3 - o3) * d1 - (a1 - o1) * d3) * (c2 - a2) + ((a1 - o1) * d2 - (a2 - o2) * d1) * (c3 - a3)) / (((b2 - a2) * (c3 - a3) - (b3 - a3) * (c2 - a2)) * d1 + ((b3 - a3) * (c1 - a1) - (b1 - a1) * (c3 - a3)) * d2 + ((b1 - a1) * (c2 - a2) - (b2 - a2) * (c1 - a1)) * d3) < 0
    · have hk : htOk ((((b2 - a2) * (c3 - a3) - (b3 - a3) * (c2 - a2)) * (a1 - o1) + ((b3 - a3) * (c1 - a1) - (b1 - a1) * (c3 - a3)) * (a2 - o2) + ((b1 - a1) * (c2 - a2) - (b2 - a2) * (c1 - a1)) * (a3 - o3)) / (((b2 - a2) * (c3 - a3) - (b3 - a3) * (c2 - a2)) * d1 + ((b3 - a3) * (c1 - a1) - (b1 - a1) * (c3 - a3)) * d2 + ((b1 - a1) * (c2 - a2) - (b2 - a2) * (c1 - a1)) * d3)) ((((a2 - o2) * d3 - (a3 - o3) * d2) * (c1 - a1) + ((a3 - o3) * d1 - (a1 - o1) * d3) * (c2 - a2) + ((a1 - o1) * d2 - (a2 - o2) * d1) * (c3 - a3)) / (((b2 - a2) * (c3 - a3) - (b3 - a3) * (c2 - a2)) * d1 + ((b3 - a3) * (c1 - a1) - (b1 - a1) * (c3 - a3)) * d2 + ((b1 - a1) * (c2 - a2) - (b2 - a2) * (c1 - a1)) * d3)) ((((a2 - o2) * d3 - (a3 - o3) * d2) * (b1 - a1) + ((a3 - o3) * d1 - (a1 - o1) * d3) * (b2 - a2) + ((a1 - o1) * d2 - (a2 - o2) * d1) * (b3 - a3)) / (-(((b2 - a2) * (c3 - a3) - (b3 - a3) * (c2 - a2)) * d1 + ((b3 - a3) * (c1 - a1) - (b1 - a1) * (c3 - a3)) * d2 + ((b1 - a1) * (c2 - a2) - (b2 - a2) * (c1 - a1)) * d3))) = false := no_u h2
      have y1 := ht_no hk
      rw [hk, y1, y1, y1]
      refine At.ok (fuel := 60) (hs := [false, false, true]) S16_ok Tryz.func17 (by kernel_rfl) ?_
      simp (maxSteps := 10000000) only [Tryz.f17, go_sem, i0, i1, ih, decide_eq_true_eq, decide_eq_false_iff_not, ne_eq, not_true_eq_false, not_false_eq_true, Decidable.not_not, beq_iff_eq, beq_eq_false_iff_ne, bne_eq_false_iff_eq, bne_iff_ne, qsgn_zero, qsgn_le, qsgn_lt, qsgn_gt, h1, h2, hD, hu, hv, Nat.reduceAdd, Nat.reduceSub, Nat.reduceMul, Int.reduceAdd, Int.reduceSub, Int.reduceToNat]
      and_intros
      all_goals first | with_reducible rfl | omega | (grind)
    by_cases h3 : (((a2 - o2) * d3 - (a3 - o3) * d2) * (b1 - a1) + ((a3 - o3) * d1 - (a1 - o1) * d3) * (b2 - a2) + ((a1 - o1) * d2 - (a2 - o2) * d1) * (b3 - a3)) / (-(((b2 - a2) * (c3 - a3) - (b3 - a3) * (c2 - a2)) * d1 + ((b3 - a3) * (c1 - a1) - (b1 - a1) * (c3 - a3)) * d2 + ((b1 - a1) * (c2 - a2) - (b2 - a2) * (c1 - a1)) * d3)) < 0
    · have hk : htOk ((((b2 - a2) * (c3 - a3) - (b3 - a3) * (c2 - a2)) * (a1 - o1) + ((b3 - a3) * (c1 - a1) - (b1 - a1) * (c3 - a3)) * (a2 - o2) + ((b1 - a1) * (c2 - a2) - (b2 - a2) * (c1 - a1)) * (a3 - o3)) / (((b2 - a2) * (c3 - a3) - (b3 - a3) * (c2 - a2)) * d1 + ((b3 - a3) * (c1 - a1) - (b1 - a1) * (c3 - a3)) * d2 + ((b1 - a1) * (c2 - a2) - (b2 - a2) * (c1 - a1)) * d3)) ((((a2 - o2) * d3 - (a3 - o3) * d2) * (c1 - a1) + ((a3 - o3) * d1 - (a1 - o1) * d3) * (c2 - a2) + ((a1 - o1) * d2 - (a2 - o2) * d1) * (c3 - a3)) / (((b2 - a2) * (c3 - a3) - (b3 - a3) * (c2 - a2)) * d1 + ((b3 - a3) * (c1 - a1) - (b1 - a1) * (c3 - a3)) * d2 + ((b1 - a1) * (c2 - a2) - (b2 - a2) * (c1 - a1)) * d3)) ((((a2 - o2) * d3 - (a3 - o3) * d2) * (b1 - a1) + ((a3 - o3) * d1 - (a1 - o1) * d3) * (b2 - a2) + ((a1 - o1) * d2 - (a2 - o2) * d1) * (b3 - a3)) / (-(((b2 - a2) * (c3 - a3) - (b3 - a3) * (c2 - a2)) * d1 + ((b3 - a3) * (c1 - a1) - (b1 - a1) * (c3 - a3)) * d2 + ((b1 - a1) * (c2 - a2) - (b2 - a2) * (c1 - a1)) * d3))) = false := no_v h3
      have y1 := ht_no hk
      rw [hk, y1, y1, y1]
      refine At.ok (fuel := 60) (hs := [false, false, false, true]) S16_ok Tryz.func17 (by kernel_rfl) ?_
      simp (maxSteps := 10000000) only [Tryz.f17, go_sem, i0, i1, ih, decide_eq_true_eq, decide_eq_false_iff_not, ne_eq, not_true_eq_false, not_false_eq_true, Decidable.not_not, beq_iff_eq, beq_eq_false_iff_ne, bne_eq_false_iff_eq, bne_iff_ne, qsgn_zero, qsgn_le, qsgn_lt, qsgn_gt, h1, h2, h3, hD, hu, hv, Nat.reduceAdd, Nat.reduceSub, Nat.reduceMul, Int.reduceAdd, Int.reduceSub, Int.reduceToNat]
      and_intros
      all_goals first | with_reducible rfl | omega | (grind)
    by_cases h4 : (((a2 - o2) * d3 - (a3 - o3) * d2) * (c1 - a1) + ((a3 - o3) * d1 - (a1 - o1) * d3) * (c2 - a2) + ((a1 - o1) * d2 - (a2 - o2) * d1) * (c3 - a3)) / (((b2 - a2) * (c3 - a3) - (b3 - a3) * (c2 - a2)) * d1 + ((b3 - a3) * (c1 - a1) - (b1 - a1) * (c3 - a3)) * d2 + ((b1 - a1) * (c2 - a2) - (b2 - a2) * (c1 - a1)) * d3) + (((a2 - o2) * d3 - (a3 - o3) * d2) * (b1 - a1) + ((a3 - o3) * d1 - (a1 - o1) * d3) * (b2 - a2) + ((a1 - o1) * d2 - (a2 - o2) * d1) * (b3 - a3)) / (-(((b2 - a2) * (c3 - a3) - (b3 - a3) * (c2 - a2)) * d1 + ((b3 - a3) * (c1 - a1) - (b1 - a1) * (c3 - a3)) * d2 + ((b1 - a1) * (c2 - a2) - (b2 - a2) * (c1 - a1)) * d3)) - 1 > 0
    · have hk : htOk ((((b2 - a2) * (c3 - a3) - (b3 - a3) * (c2 - a2)) * (a1 - o1) + ((b3 - a3) * (c1 - a1) - (b1 - a1) * (c3 - a3)) * (a2 - o2) + ((b1 - a1) * (c2 - a2) - (b2 - a2) * (c1 - a1)) * (a3 - o3)) / (((b2 - a2) * (c3 - a3) - (b3 - a3) * (c2 - a2)) * d1 + ((b3 - a3) * (c1 - a1) - (b1 - a1) * (c3 - a3)) * d2 + ((b1 - a1) * (c2 - a2) - (b2 - a2) * (c1 - a1)) * d3)) ((((a2 - o2) * d3 - (a3 - o3) * d2) * (c1 - a1) + ((a3 - o3) * d1 - (a1 - o1) * d3) * (c2 - a2) + ((a1 - o1) * d2 - (a2 - o2) * d1) * (c3 - a3)) / (((b2 - a2) * (c3 - a3) - (b3 - a3) * (c2 - a2)) * d1 + ((b3 - a3) * (c1 - a1) - (b1 - a1) * (c3 - a3)) * d2 + ((b1 - a1) * (c2 - a2) - (b2 - a2) * (c1 - a1)) * d3)) ((((a2 - o2) * d3 - (a3 - o3) * d2) * (b1 - a1) + ((a3 - o3) * d1 - (a1 - o1) * d3) * (b2 - a2) + ((a1 - o1) * d2 - (a2 - o2) * d1) * (b3 - a3)) / (-(((b2 - a2) * (c3 - a3) - (b3 - a3) * (c2 - a2)) * d1 + ((b3 - a3) * (c1 - a1) - (b1 - a1) * (c3 - a3)) * d2 + ((b1 - a1) * (c2 - a2) - (b2 - a2) * (c1 - a1)) * d3))) = false := no_w h4
      have y1 := ht_no hk
      rw [hk, y1, y1, y1]
      refine At.ok (fuel := 60) (hs := [false, false, false, false, true]) S16_ok Tryz.func17 (by kernel_rfl) ?_
      simp (maxSteps := 10000000) only [Tryz.f17, go_sem, i0, i1, ih, decide_eq_true_eq, decide_eq_false_iff_not, ne_eq, not_true_eq_false, not_false_eq_true, Decidable.not_not, beq_iff_eq, beq_eq_false_iff_ne, bne_eq_false_iff_eq, bne_iff_ne, qsgn_zero, qsgn_le, qsgn_lt, qsgn_gt, h1, h2, h3, h4, hD, hu, hv, Nat.reduceAdd, Nat.reduceSub, Nat.reduceMul, Int.reduceAdd, Int.reduceSub, Int.reduceToNat]
      and_intros
      all_goals first | with_reducible rfl | omega | (grind)
    · have hk : htOk ((((b2 - a2) * (c3 - a3) - (b3 - a3) * (c2 - a2)) * (a1 - o1) + ((b3 - a3) * (c1 - a1) - (b1 - a1) * (c3 - a3)) * (a2 - o2) + ((b1 - a1) * (c2 - a2) - (b2 - a2) * (c1 - a1)) * (a3 - o3)) / (((b2 - a2) * (c3 - a3) - (b3 - a3) * (c2 - a2)) * d1 + ((b3 - a3) * (c1 - a1) - (b1 - a1) * (c3 - a3)) * d2 + ((b1 - a1) * (c2 - a2) - (b2 - a2) * (c1 - a1)) * d3)) ((((a2 - o2) * d3 - (a3 - o3) * d2) * (c1 - a1) + ((a3 - o3) * d1 - (a1 - o1) * d3) * (c2 - a2) + ((a1 - o1) * d2 - (a2 - o2) * d1) * (c3 - a3)) / (((b2 - a2) * (c3 - a3) - (b3 - a3) * (c2 - a2)) * d1 + ((b3 - a3) * (c1 - a1) - (b1 - a1) * (c3 - a3)) * d2 + ((b1 - a1) * (c2 - a2) - (b2 - a2) * (c1 - a1)) * d3)) ((((a2 - o2) * d3 - (a3 - o3) * d2) * (b1 - a1) + ((a3 - o3) * d1 - (a1 - o1) * d3) * (b2 - a2) + ((a1 - o1) * d2 - (a2 - o2) * d1) * (b3 - a3)) / (-(((b2 - a2) * (c3 - a3) - (b3 - a3) * (c2 - a2)) * d1 + ((b3 - a3) * (c1 - a1) - (b1 - a1) * (c3 - a3)) * d2 + ((b1 - a1) * (c2 - a2) - (b2 - a2) * (c1 - a1)) * d3))) = true := yes_all h1 h2 h3 h4
      have y1 := ht_yes hk
      rw [hk, y1, y1, y1]
      refine At.ok (fuel := 60) (hs := [false, false, false, false, false]) S16_ok Tryz.func17 (by kernel_rfl) ?_
      simp (maxSteps := 10000000) only [Tryz.f17, go_sem, i0, i1, ih, decide_eq_true_eq, decide_eq_false_iff_not, ne_eq, not_true_eq_false, not_false_eq_true, Decidable.not_not, beq_iff_eq, beq_eq_false_iff_ne, bne_eq_false_iff_eq, bne_iff_ne, qsgn_zero, qsgn_le, qsgn_lt, qsgn_gt, h1, h2, h3, h4, hD, hu, hv, Nat.reduceAdd, Nat.reduceSub, Nat.reduceMul, Int.reduceAdd, Int.reduceSub, Int.reduceToNat]
      and_intros
      all_goals first | with_reducible rfl | omega | (grind)
  · cases h)
@[go_sem] def S17 : List Spec := s8Unit :: s8Hit :: S16
theorem S17_ok : AllOk Tryz.prog S17 := ⟨s8Unit_ok, s8Hit_ok, S16_ok⟩
end Go.Proofs.YtmoicmjljflcgaaGreat.Sym

/- penumbralaw08.fixed: true. -/
namespace Go.Proofs.YtmoicmjljflcgaaGreat.Sym
open Go Go.RowKit M Kahn
set_option maxRecDepth 1000000
set_option linter.unusedSimpArgs false
set_option linter.unusedVariables false

@[go_sem] def sUnit8 : Spec := ⟨26, fun xs => match xs with
  | [] => some (⟨.inl (cn [0, 0, 0, 1, 0, 0, 0, 1, 0] (2))⟩, True)
  | _ => none⟩
set_option maxHeartbeats 8000000 in
theorem sUnit8_ok : SpecOk Tryz.prog sUnit8 := SpecOk.mk' Tryz.func26 (by kernel_rfl) (by kernel_rfl) (fun xs r p h hp => by
  simp only [sUnit8] at h
  split at h
  · cases h
    have i0 : ((0 : Int) : Rat) / ((1 : Int) : Rat) = 0 := by decide +kernel
    have i1 : ((1 : Int) : Rat) / ((1 : Int) : Rat) = 1 := by decide +kernel
    have i2 : ((-2 : Int) : Rat) / ((1 : Int) : Rat) = -2 := by decide +kernel
    have i3 : ((3 : Int) : Rat) / ((1 : Int) : Rat) = 3 := by decide +kernel
    have im : ((-1 : Int) : Rat) / ((1 : Int) : Rat) = -1 := by decide +kernel
    have iq : ((1 : Int) : Rat) / ((4 : Int) : Rat) = 1 / 4 := by decide +kernel
    refine At.ok (fuel := 100) (hs := []) S17_ok Tryz.func26 (by kernel_rfl) ?_
    simp (maxSteps := 10000000) only [Tryz.f26, go_sem, decide_eq_true_eq, decide_eq_false_iff_not, ne_eq, not_true_eq_false, not_false_eq_true, Decidable.not_not, beq_iff_eq, beq_eq_false_iff_ne, bne_eq_false_iff_eq, bne_iff_ne, qsgn_zero, qsgn_le, qsgn_lt, qsgn_gt, qsgn_ge, eq_self, decide_true, decide_false, and_self, i0, i1, i2, i3, im, iq, Nat.reduceAdd, Nat.reduceSub, Nat.reduceMul, Int.reduceAdd, Int.reduceSub, Int.reduceToNat]
    and_intros
    all_goals first | with_reducible rfl | assumption | omega | decide | (grind)
  · cases h)
@[go_sem] def S18 : List Spec := sUnit8 :: S17
theorem S18_ok : AllOk Tryz.prog S18 := ⟨sUnit8_ok, S17_ok⟩
@[go_sem] def sFixed8 : Spec := ⟨7, fun xs => match xs with
  | [] => some (⟨.inl ⟨some (.inl (.bool true))⟩⟩, True)
  | _ => none⟩
set_option maxHeartbeats 16000000 in
theorem sFixed8_ok : SpecOk Tryz.prog sFixed8 := SpecOk.mk' Tryz.func7 (by kernel_rfl) (by kernel_rfl) (fun xs r p h hp => by
  simp only [sFixed8] at h
  split at h
  · cases h
    have i0 : ((0 : Int) : Rat) / ((1 : Int) : Rat) = 0 := by decide +kernel
    have i1 : ((1 : Int) : Rat) / ((1 : Int) : Rat) = 1 := by decide +kernel
    have i2 : ((-2 : Int) : Rat) / ((1 : Int) : Rat) = -2 := by decide +kernel
    have i3 : ((3 : Int) : Rat) / ((1 : Int) : Rat) = 3 := by decide +kernel
    have im : ((-1 : Int) : Rat) / ((1 : Int) : Rat) = -1 := by decide +kernel
    have iq : ((1 : Int) : Rat) / ((4 : Int) : Rat) = 1 / 4 := by decide +kernel
    refine At.ok (fuel := 100) (hs := [true, false, false, true, true, true, true, true, true]) S18_ok Tryz.func7 (by kernel_rfl) ?_
    simp (maxSteps := 10000000) only [Tryz.f7, go_sem, decide_eq_true_eq, decide_eq_false_iff_not, ne_eq, not_true_eq_false, not_false_eq_true, Decidable.not_not, beq_iff_eq, beq_eq_false_iff_ne, bne_eq_false_iff_eq, bne_iff_ne, qsgn_zero, qsgn_le, qsgn_lt, qsgn_gt, qsgn_ge, eq_self, decide_true, decide_false, and_self, i0, i1, i2, i3, im, iq, Nat.reduceAdd, Nat.reduceSub, Nat.reduceMul, Int.reduceAdd, Int.reduceSub, Int.reduceToNat]
    and_intros
    all_goals first | with_reducible rfl | assumption | omega | decide | (decide +kernel)
  · cases h)
@[go_sem] def S19 : List Spec := sFixed8 :: S18
theorem S19_ok : AllOk Tryz.prog S19 := ⟨sFixed8_ok, S18_ok⟩
end Go.Proofs.YtmoicmjljflcgaaGreat.Sym
