/- penumbraref10, by runs 2: what has no loops. -/
import Derived.Test.YtbobhhnhlgdkiaaGreatJP
import Derived.Test.YtbobhhnhlgdkiaaGreatJO
namespace Go.Proofs.YtbobhhnhlgdkiaaGreat.Sy
open Go Go.RowKit M Kahn
set_option maxRecDepth 1000000
set_option linter.unusedSimpArgs false
set_option linter.unusedVariables false

/-- The less, and the greater one of two. -/
def mn (a b : Rat) : Rat := if a ≤ b then a else b
def mx (a b : Rat) : Rat := if b ≤ a then a else b
theorem mn_yes {a b : Rat} (h : a - b ≤ 0) : mn a b = a := if_pos (by grind)
theorem mn_no {a b : Rat} (h : ¬ a - b ≤ 0) : mn a b = b := if_neg (by grind)
theorem mx_yes {a b : Rat} (h : a - b ≥ 0) : mx a b = a := if_pos (by grind)
theorem mx_no {a b : Rat} (h : ¬ a - b ≥ 0) : mx a b = b := if_neg (by grind)
/-- Does a number lie between two? -/
def btw (a b c : Rat) : Bool := decide (b ≤ a ∧ a ≤ c)
theorem btw_yes {a b c : Rat} (h : a - b ≥ 0) (k : a - c ≤ 0) : btw a b c = true := decide_eq_true (by grind)
theorem btw_no1 {a b c : Rat} (h : ¬ a - b ≥ 0) : btw a b c = false := decide_eq_false (by grind)
theorem btw_no2 {a b c : Rat} (k : ¬ a - c ≤ 0) : btw a b c = false := decide_eq_false (by grind)
/-- The places at which a number that moves is one of two ends. -/
def edl1 (x : Rat) : List Rat := if 0 ≤ x then [x] else []
def edl (o d lo hi : Rat) : List Rat := if d = 0 then [] else edl1 ((lo - o) / d) ++ edl1 ((hi - o) / d)
theorem edl1_yes {x : Rat} (h : x ≥ 0) : edl1 x = [x] := if_pos h
theorem edl1_no {x : Rat} (h : ¬ x ≥ 0) : edl1 x = [] := if_neg h
/-- Canonical Rats in a row. -/
def eC (K : Nat) (q : Rat) : D := .agg [.held (.inl (q, K, true))]
@[go_sem] def sBtw : Spec := spN 31 fun l => match l with
  | [([a], K), ([b], L), ([c], M)] => some (⟨.inl (.held (.inr (.inl (.bool (btw a b c)))))⟩, 1 ≤ K ∧ 1 ≤ L ∧ 1 ≤ M ∧ K + L + M + 1 ≤ 17179869184)
  | _ => none
set_option maxHeartbeats 16000000 in
theorem sBtw_ok : SpecOk Tryz.prog sBtw := SpecOk.mk' Tryz.func31 (by kernel_rfl) (by kernel_rfl) (spN_at fun l r p h hp => by
  split at h
  · rename_i a K b L c M
    cases h
    have i0 : ((0 : Int) : Rat) / ((1 : Int) : Rat) = 0 := by decide +kernel
    have i1 : ((1 : Int) : Rat) / ((1 : Int) : Rat) = 1 := by decide +kernel
    by_cases h1 : a - b ≥ 0
    · by_cases h2 : a - c ≤ 0
      · rw [btw_yes h1 h2]
        refine At.ok (fuel := 60) (hs := [true, true]) S16_ok Tryz.func31 (by kernel_rfl) ?_
        simp (maxSteps := 10000000) only [Tryz.f31, go_sem, decide_eq_true_eq, decide_eq_false_iff_not, ne_eq, not_true_eq_false, not_false_eq_true, Decidable.not_not, beq_iff_eq, beq_eq_false_iff_ne, bne_eq_false_iff_eq, bne_iff_ne, qsgn_zero, qsgn_le, qsgn_lt, qsgn_gt, qsgn_ge, h1, h2, Nat.reduceAdd, Nat.reduceSub, Nat.reduceMul, Int.reduceAdd, Int.reduceSub, Int.reduceToNat]
        and_intros
        all_goals first | with_reducible rfl | omega | (grind)
      · rw [btw_no2 h2]
        refine At.ok (fuel := 60) (hs := [true, false]) S16_ok Tryz.func31 (by kernel_rfl) ?_
        simp (maxSteps := 10000000) only [Tryz.f31, go_sem, decide_eq_true_eq, decide_eq_false_iff_not, ne_eq, not_true_eq_false, not_false_eq_true, Decidable.not_not, beq_iff_eq, beq_eq_false_iff_ne, bne_eq_false_iff_eq, bne_iff_ne, qsgn_zero, qsgn_le, qsgn_lt, qsgn_gt, qsgn_ge, h1, h2, Nat.reduceAdd, Nat.reduceSub, Nat.reduceMul, Int.reduceAdd, Int.reduceSub, Int.reduceToNat]
        and_intros
        all_goals first | with_reducible rfl | omega | (grind)
    · rw [btw_no1 h1]
      refine At.ok (fuel := 60) (hs := [false]) S16_ok Tryz.func31 (by kernel_rfl) ?_
      simp (maxSteps := 10000000) only [Tryz.f31, go_sem, decide_eq_true_eq, decide_eq_false_iff_not, ne_eq, not_true_eq_false, not_false_eq_true, Decidable.not_not, beq_iff_eq, beq_eq_false_iff_ne, bne_eq_false_iff_eq, bne_iff_ne, qsgn_zero, qsgn_le, qsgn_lt, qsgn_gt, qsgn_ge, h1, Nat.reduceAdd, Nat.reduceSub, Nat.reduceMul, Int.reduceAdd, Int.reduceSub, Int.reduceToNat]
      and_intros
      all_goals first | with_reducible rfl | omega | (grind)
  · cases h)
@[go_sem] def sMin : Spec := spN 21 fun l => match l with
  | [([a], K), ([b], L)] => some (⟨.inl (cn [mn a b] (max K L))⟩, 1 ≤ K ∧ 1 ≤ L ∧ K + L + 1 ≤ 17179869184)
  | _ => none
set_option maxHeartbeats 16000000 in
theorem sMin_ok : SpecOk Tryz.prog sMin := SpecOk.mk' Tryz.func21 (by kernel_rfl) (by kernel_rfl) (spN_at fun l r p h hp => by
  split at h
  · rename_i a K b L
    cases h
    have i0 : ((0 : Int) : Rat) / ((1 : Int) : Rat) = 0 := by decide +kernel
    have i1 : ((1 : Int) : Rat) / ((1 : Int) : Rat) = 1 := by decide +kernel
    by_cases h1 : a - b ≤ 0
    · rw [mn_yes h1]
      refine At.ok (fuel := 60) (hs := [true]) S16_ok Tryz.func21 (by kernel_rfl) ?_
      simp (maxSteps := 10000000) only [Tryz.f21, go_sem, decide_eq_true_eq, decide_eq_false_iff_not, ne_eq, not_true_eq_false, not_false_eq_true, Decidable.not_not, beq_iff_eq, beq_eq_false_iff_ne, bne_eq_false_iff_eq, bne_iff_ne, qsgn_zero, qsgn_le, qsgn_lt, qsgn_gt, qsgn_ge, h1, Nat.reduceAdd, Nat.reduceSub, Nat.reduceMul, Int.reduceAdd, Int.reduceSub, Int.reduceToNat]
      and_intros
      all_goals first | with_reducible rfl | omega | (grind)
    · rw [mn_no h1]
      refine At.ok (fuel := 60) (hs := [false]) S16_ok Tryz.func21 (by kernel_rfl) ?_
      simp (maxSteps := 10000000) only [Tryz.f21, go_sem, decide_eq_true_eq, decide_eq_false_iff_not, ne_eq, not_true_eq_false, not_false_eq_true, Decidable.not_not, beq_iff_eq, beq_eq_false_iff_ne, bne_eq_false_iff_eq, bne_iff_ne, qsgn_zero, qsgn_le, qsgn_lt, qsgn_gt, qsgn_ge, h1, Nat.reduceAdd, Nat.reduceSub, Nat.reduceMul, Int.reduceAdd, Int.reduceSub, Int.reduceToNat]
      and_intros
      all_goals first | with_reducible rfl | omega | (grind)
  · cases h)
@[go_sem] def sMax : Spec := spN 22 fun l => match l with
  | [([a], K), ([b], L)] => some (⟨.inl (cn [mx a b] (max K L))⟩, 1 ≤ K ∧ 1 ≤ L ∧ K + L + 1 ≤ 17179869184)
  | _ => none
set_option maxHeartbeats 16000000 in
theorem sMax_ok : SpecOk Tryz.prog sMax := SpecOk.mk' Tryz.func22 (by kernel_rfl) (by kernel_rfl) (spN_at fun l r p h hp => by
  split at h
  · rename_i a K b L
    cases h
    have i0 : ((0 : Int) : Rat) / ((1 : Int) : Rat) = 0 := by decide +kernel
    have i1 : ((1 : Int) : Rat) / ((1 : Int) : Rat) = 1 := by decide +kernel
    by_cases h1 : a - b ≥ 0
    · rw [mx_yes h1]
      refine At.ok (fuel := 60) (hs := [true]) S16_ok Tryz.func22 (by kernel_rfl) ?_
      simp (maxSteps := 10000000) only [Tryz.f22, go_sem, decide_eq_true_eq, decide_eq_false_iff_not, ne_eq, not_true_eq_false, not_false_eq_true, Decidable.not_not, beq_iff_eq, beq_eq_false_iff_ne, bne_eq_false_iff_eq, bne_iff_ne, qsgn_zero, qsgn_le, qsgn_lt, qsgn_gt, qsgn_ge, h1, Nat.reduceAdd, Nat.reduceSub, Nat.reduceMul, Int.reduceAdd, Int.reduceSub, Int.reduceToNat]
      and_intros
      all_goals first | with_reducible rfl | omega | (grind)
    · rw [mx_no h1]
      refine At.ok (fuel := 60) (hs := [false]) S16_ok Tryz.func22 (by kernel_rfl) ?_
      simp (maxSteps := 10000000) only [Tryz.f22, go_sem, decide_eq_true_eq, decide_eq_false_iff_not, ne_eq, not_true_eq_false, not_false_eq_true, Decidable.not_not, beq_iff_eq, beq_eq_false_iff_ne, bne_eq_false_iff_eq, bne_iff_ne, qsgn_zero, qsgn_le, qsgn_lt, qsgn_gt, qsgn_ge, h1, Nat.reduceAdd, Nat.reduceSub, Nat.reduceMul, Int.reduceAdd, Int.reduceSub, Int.reduceToNat]
      and_intros
      all_goals first | with_reducible rfl | omega | (grind)
  · cases h)
@[go_sem] def S20 : List Spec := sBtw :: sMin :: sMax :: S16
theorem S20_ok : AllOk Tryz.prog S20 := ⟨sBtw_ok, sMin_ok, sMax_ok, S16_ok⟩
@[go_sem] def sJoin2 : Spec := spN 84 fun l => match l with
  | [([a1, a2, a3, a4, a5, a6], K), ([b1, b2, b3, b4, b5, b6], L)] => some (⟨.inl (cn [mn a1 b1, mn a2 b2, mn a3 b3, mx a4 b4, mx a5 b5, mx a6 b6] (max K L))⟩, 1 ≤ K ∧ 1 ≤ L ∧ K + L + 1 ≤ 17179869184)
  | _ => none
set_option maxHeartbeats 16000000 in
theorem sJoin2_ok : SpecOk Tryz.prog sJoin2 := SpecOk.mk' Tryz.func84 (by kernel_rfl) (by kernel_rfl) (spN_at fun l r p h hp => by
  split at h
  · rename_i a1 a2 a3 a4 a5 a6 K b1 b2 b3 b4 b5 b6 L
    cases h
    have i0 : ((0 : Int) : Rat) / ((1 : Int) : Rat) = 0 := by decide +kernel
    have i1 : ((1 : Int) : Rat) / ((1 : Int) : Rat) = 1 := by decide +kernel
    refine At.ok (fuel := 60) (hs := []) S20_ok Tryz.func84 (by kernel_rfl) ?_
    simp (maxSteps := 10000000) only [Tryz.f84, go_sem, i0, i1, Nat.reduceAdd, Nat.reduceSub, Nat.reduceMul, Int.reduceAdd, Int.reduceSub, Int.reduceToNat]
    and_intros
    all_goals first | with_reducible rfl | omega | (grind)
  · cases h)
@[go_sem] def sHolds10 : Spec := spN 10 fun l => match l with
  | [([a1, a2, a3, a4, a5, a6], K), ([p1, p2, p3], L)] => some (⟨.inl (.held (.inr (.inl (.bool (btw p1 a1 a4 && btw p2 a2 a5 && btw p3 a3 a6)))))⟩, 1 ≤ K ∧ 1 ≤ L ∧ 2 * K + L + 1 ≤ 17179869184)
  | _ => none
set_option maxHeartbeats 16000000 in
theorem sHolds10_ok : SpecOk Tryz.prog sHolds10 := SpecOk.mk' Tryz.func10 (by kernel_rfl) (by kernel_rfl) (spN_at fun l r p h hp => by
  split at h
  · rename_i a1 a2 a3 a4 a5 a6 K p1 p2 p3 L
    cases h
    have i0 : ((0 : Int) : Rat) / ((1 : Int) : Rat) = 0 := by decide +kernel
    have i1 : ((1 : Int) : Rat) / ((1 : Int) : Rat) = 1 := by decide +kernel
    cases h1 : btw p1 a1 a4 with
    | false => 
      refine At.ok (fuel := 60) (hs := [false]) S20_ok Tryz.func10 (by kernel_rfl) ?_
      simp (maxSteps := 10000000) only [Tryz.f10, go_sem, h1, Nat.reduceAdd, Nat.reduceSub, Nat.reduceMul, Int.reduceAdd, Int.reduceSub, Int.reduceToNat]
      and_intros
      all_goals first | with_reducible rfl | omega | (grind)
    | true =>
      cases h2 : btw p2 a2 a5 with
      | false => 
        refine At.ok (fuel := 60) (hs := [true, false]) S20_ok Tryz.func10 (by kernel_rfl) ?_
        simp (maxSteps := 10000000) only [Tryz.f10, go_sem, h1, h2, Nat.reduceAdd, Nat.reduceSub, Nat.reduceMul, Int.reduceAdd, Int.reduceSub, Int.reduceToNat]
        and_intros
        all_goals first | with_reducible rfl | omega | (grind)
      | true =>
        cases h3 : btw p3 a3 a6 with
        | false => 
          refine At.ok (fuel := 60) (hs := [true, true, false]) S20_ok Tryz.func10 (by kernel_rfl) ?_
          simp (maxSteps := 10000000) only [Tryz.f10, go_sem, h1, h2, h3, Nat.reduceAdd, Nat.reduceSub, Nat.reduceMul, Int.reduceAdd, Int.reduceSub, Int.reduceToNat]
          and_intros
          all_goals first | with_reducible rfl | omega | (grind)
        | true => 
          refine At.ok (fuel := 60) (hs := [true, true, true]) S20_ok Tryz.func10 (by kernel_rfl) ?_
          simp (maxSteps := 10000000) only [Tryz.f10, go_sem, h1, h2, h3, Nat.reduceAdd, Nat.reduceSub, Nat.reduceMul, Int.reduceAdd, Int.reduceSub, Int.reduceToNat]
          and_intros
          all_goals first | with_reducible rfl | omega | (grind)
  · cases h)
@[go_sem] def sEdges : Spec := spN 20 fun l => match l with
  | [([o], K), ([d], L), ([a], M), ([b], N)] => some (⟨.inl (.slice ((edl o d a b).map (eC (K + L + max M N + 1))) [])⟩, 1 ≤ K ∧ 1 ≤ L ∧ 1 ≤ M ∧ 1 ≤ N ∧ K + L + M + N + 4 ≤ 17179869184)
  | _ => none
set_option maxHeartbeats 16000000 in
theorem sEdges_ok : SpecOk Tryz.prog sEdges := SpecOk.mk' Tryz.func20 (by kernel_rfl) (by kernel_rfl) (spN_at fun l r p h hp => by
  split at h
  · rename_i o K d L a M b N
    cases h
    have i0 : ((0 : Int) : Rat) / ((1 : Int) : Rat) = 0 := by decide +kernel
    have i1 : ((1 : Int) : Rat) / ((1 : Int) : Rat) = 1 := by decide +kernel
    by_cases hd : d = 0
    · rw [edl, if_pos hd]
      refine At.ok (fuel := 60) (hs := [true]) S20_ok Tryz.func20 (by kernel_rfl) ?_
      simp (maxSteps := 10000000) only [Tryz.f20, go_sem, decide_eq_true_eq, decide_eq_false_iff_not, ne_eq, not_true_eq_false, not_false_eq_true, Decidable.not_not, beq_iff_eq, beq_eq_false_iff_ne, bne_eq_false_iff_eq, bne_iff_ne, qsgn_zero, qsgn_le, qsgn_lt, qsgn_gt, qsgn_ge, hd, Nat.reduceAdd, Nat.reduceSub, Nat.reduceMul, Int.reduceAdd, Int.reduceSub, Int.reduceToNat]
      and_intros
      all_goals first | with_reducible rfl | omega | (grind)
    by_cases h1 : (a - o) / d ≥ 0
    · by_cases h2 : (b - o) / d ≥ 0
      · rw [edl, if_neg hd, edl1_yes h1, edl1_yes h2]
        refine At.ok (fuel := 60) (hs := [false, true, true]) S20_ok Tryz.func20 (by kernel_rfl) ?_
        simp (maxSteps := 10000000) only [Tryz.f20, go_sem, decide_eq_true_eq, decide_eq_false_iff_not, ne_eq, not_true_eq_false, not_false_eq_true, Decidable.not_not, beq_iff_eq, beq_eq_false_iff_ne, bne_eq_false_iff_eq, bne_iff_ne, qsgn_zero, qsgn_le, qsgn_lt, qsgn_gt, qsgn_ge, hd, h1, h2, eC, Nat.reduceAdd, Nat.reduceSub, Nat.reduceMul, Int.reduceAdd, Int.reduceSub, Int.reduceToNat]
        and_intros
        all_goals first | with_reducible rfl | omega | (grind)
      · rw [edl, if_neg hd, edl1_yes h1, edl1_no h2]
        refine At.ok (fuel := 60) (hs := [false, true, false]) S20_ok Tryz.func20 (by kernel_rfl) ?_
        simp (maxSteps := 10000000) only [Tryz.f20, go_sem, decide_eq_true_eq, decide_eq_false_iff_not, ne_eq, not_true_eq_false, not_false_eq_true, Decidable.not_not, beq_iff_eq, beq_eq_false_iff_ne, bne_eq_false_iff_eq, bne_iff_ne, qsgn_zero, qsgn_le, qsgn_lt, qsgn_gt, qsgn_ge, hd, h1, h2, eC, Nat.reduceAdd, Nat.reduceSub, Nat.reduceMul, Int.reduceAdd, Int.reduceSub, Int.reduceToNat]
        and_intros
        all_goals first | with_reducible rfl | omega | (grind)
    · by_cases h2 : (b - o) / d ≥ 0
      · rw [edl, if_neg hd, edl1_no h1, edl1_yes h2]
        refine At.ok (fuel := 60) (hs := [false, false, true]) S20_ok Tryz.func20 (by kernel_rfl) ?_
        simp (maxSteps := 10000000) only [Tryz.f20, go_sem, decide_eq_true_eq, decide_eq_false_iff_not, ne_eq, not_true_eq_false, not_false_eq_true, Decidable.not_not, beq_iff_eq, beq_eq_false_iff_ne, bne_eq_false_iff_eq, bne_iff_ne, qsgn_zero, qsgn_le, qsgn_lt, qsgn_gt, qsgn_ge, hd, h1, h2, eC, Nat.reduceAdd, Nat.reduceSub, Nat.reduceMul, Int.reduceAdd, Int.reduceSub, Int.reduceToNat]
        and_intros
        all_goals first | with_reducible rfl | omega | (grind)
      · rw [edl, if_neg hd, edl1_no h1, edl1_no h2]
        refine At.ok (fuel := 60) (hs := [false, false, false]) S20_ok Tryz.func20 (by kernel_rfl) ?_
        simp (maxSteps := 10000000) only [Tryz.f20, go_sem, decide_eq_true_eq, decide_eq_false_iff_not, ne_eq, not_true_eq_false, not_false_eq_true, Decidable.not_not, beq_iff_eq, beq_eq_false_iff_ne, bne_eq_false_iff_eq, bne_iff_ne, qsgn_zero, qsgn_le, qsgn_lt, qsgn_gt, qsgn_ge, hd, h1, h2, eC, Nat.reduceAdd, Nat.reduceSub, Nat.reduceMul, Int.reduceAdd, Int.reduceSub, Int.reduceToNat]
        and_intros
        all_goals first | with_reducible rfl | omega | (grind)
  · cases h)
@[go_sem] def S21 : List Spec := sJoin2 :: sHolds10 :: sEdges :: S20
theorem S21_ok : AllOk Tryz.prog S21 := ⟨sJoin2_ok, sHolds10_ok, sEdges_ok, S20_ok⟩
end Go.Proofs.YtbobhhnhlgdkiaaGreat.Sy
