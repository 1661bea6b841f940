/- penumbraref10, by runs 2: what has no loops. -/
import Derived.Test.YtbobhhnhlgdkiaaJP
import Derived.Test.YtbobhhnhlgdkiaaJO
namespace Go.Proofs.Ytbobhhnhlgdkiaa.Sy
open Go Go.RowKit M Kahn
set_option maxRecDepth 1000000
set_option linter.unusedSimpArgs false
set_option linter.unusedVariables false

/-- The less, and the greater one of two. -/
def mn (a b : Rat) : Rat := if a ≤ b then a else b
def mx (a b : Rat) : Rat := if b ≤ a then a else b
theorem mn_yes {a b : Rat} (h : a - b ≤ 0) : mn a b = a := if_pos (by grind)
theorem mn_no {a b : Rat} (h : ¬ a - b ≤ 0) : mn a b = b := if_neg (by grind)
theorem mx_yes {a b : Rat} (h : a - b ≥ 0) : mx a b = a := if_pos (by grind)
theorem mx_no {a b : Rat} (h : ¬ a - b ≥ 0) : mx a b = b := if_neg (by grind)
/-- Does a number lie between two? -/
def btw (a b c : Rat) : Bool := decide (b ≤ a ∧ a ≤ c)
theorem btw_yes {a b c : Rat} (h : a - b ≥ 0) (k : a - c ≤ 0) : btw a b c = true := decide_eq_true (by grind)
theorem btw_no1 {a b c : Rat} (h : ¬ a - b ≥ 0) : btw a b c = false := decide_eq_false (by grind)
theorem btw_no2 {a b c : Rat} (k : ¬ a - c ≤ 0) : btw a b c = false := decide_eq_false (by grind)
/-- The places at which a number that moves is one of two ends. -/
def edl1 (x : Rat) : List Rat := if 0 ≤ x then [x] else []
def edl (o d lo hi : Rat) : List Rat := if d = 0 then [] else edl1 ((lo - o) / d) ++ edl1 ((hi - o) / d)
/-- Canonical Rats in a row. -/
def eC (K : Nat) (q : Rat) : D := .agg [.held (.inl (q, K, true))]
@[go_sem] def sMin : Spec := spN 46 fun l => match l with
  | [([a], K), ([b], L)] => some (⟨.inl (cn [mn a b] (max K L))⟩, 1 ≤ K ∧ 1 ≤ L ∧ K + L + 1 ≤ 17179869184)
  | _ => none
set_option maxHeartbeats 16000000 in
theorem sMin_ok : SpecOk Try.prog sMin := SpecOk.mk' Try.func46 (by kernel_rfl) (by kernel_rfl) (spN_at fun l r p h hp => by
  split at h
  · rename_i a K b L
    cases h
    have i0 : ((0 : Int) : Rat) / ((1 : Int) : Rat) = 0 := by decide +kernel
    have i1 : ((1 : Int) : Rat) / ((1 : Int) : Rat) = 1 := by decide +kernel
    by_cases h1 : a - b ≤ 0
    · rw [mn_yes h1]
      refine At.ok (fuel := 60) (hs := [true]) S13_ok Try.func46 (by kernel_rfl) ?_
      simp (maxSteps := 10000000) only [Try.f46, go_sem, decide_eq_true_eq, decide_eq_false_iff_not, ne_eq, not_true_eq_false, not_false_eq_true, Decidable.not_not, beq_iff_eq, beq_eq_false_iff_ne, bne_eq_false_iff_eq, bne_iff_ne, qsgn_zero, qsgn_le, qsgn_lt, qsgn_gt, qsgn_ge, h1, Nat.reduceAdd, Nat.reduceSub, Nat.reduceMul, Int.reduceAdd, Int.reduceSub, Int.reduceToNat]
      and_intros
      all_goals first | with_reducible rfl | omega | (grind)
    · rw [mn_no h1]
      refine At.ok (fuel := 60) (hs := [false]) S13_ok Try.func46 (by kernel_rfl) ?_
      simp (maxSteps := 10000000) only [Try.f46, go_sem, decide_eq_true_eq, decide_eq_false_iff_not, ne_eq, not_true_eq_false, not_false_eq_true, Decidable.not_not, beq_iff_eq, beq_eq_false_iff_ne, bne_eq_false_iff_eq, bne_iff_ne, qsgn_zero, qsgn_le, qsgn_lt, qsgn_gt, qsgn_ge, h1, Nat.reduceAdd, Nat.reduceSub, Nat.reduceMul, Int.reduceAdd, Int.reduceSub, Int.reduceToNat]
      and_intros
      all_goals first | with_reducible rfl | omega | (grind)
  · cases h)
@[go_sem] def sMax : Spec := spN 47 fun l => match l with
  | [([a], K), ([b], L)] => some (⟨.inl (cn [mx a b] (max K L))⟩, 1 ≤ K ∧ 1 ≤ L ∧ K + L + 1 ≤ 17179869184)
  | _ => none
set_option maxHeartbeats 16000000 in
theorem sMax_ok : SpecOk Try.prog sMax := SpecOk.mk' Try.func47 (by kernel_rfl) (by kernel_rfl) (spN_at fun l r p h hp => by
  split at h
  · rename_i a K b L
    cases h
    have i0 : ((0 : Int) : Rat) / ((1 : Int) : Rat) = 0 := by decide +kernel
    have i1 : ((1 : Int) : Rat) / ((1 : Int) : Rat) = 1 := by decide +kernel
    by_cases h1 : a - b ≥ 0
    · rw [mx_yes h1]
      refine At.ok (fuel := 60) (hs := [true]) S13_ok Try.func47 (by kernel_rfl) ?_
      simp (maxSteps := 10000000) only [Try.f47, go_sem, decide_eq_true_eq, decide_eq_false_iff_not, ne_eq, not_true_eq_false, not_false_eq_true, Decidable.not_not, beq_iff_eq, beq_eq_false_iff_ne, bne_eq_false_iff_eq, bne_iff_ne, qsgn_zero, qsgn_le, qsgn_lt, qsgn_gt, qsgn_ge, h1, Nat.reduceAdd, Nat.reduceSub, Nat.reduceMul, Int.reduceAdd, Int.reduceSub, Int.reduceToNat]
      and_intros
      all_goals first | with_reducible rfl | omega | (grind)
    · rw [mx_no h1]
      refine At.ok (fuel := 60) (hs := [false]) S13_ok Try.func47 (by kernel_rfl) ?_
      simp (maxSteps := 10000000) only [Try.f47, go_sem, decide_eq_true_eq, decide_eq_false_iff_not, ne_eq, not_true_eq_false, not_false_eq_true, Decidable.not_not, beq_iff_eq, beq_eq_false_iff_ne, bne_eq_false_iff_eq, bne_iff_ne, qsgn_zero, qsgn_le, qsgn_lt, qsgn_gt, qsgn_ge, h1, Nat.reduceAdd, Nat.reduceSub, Nat.reduceMul, Int.reduceAdd, Int.reduceSub, Int.reduceToNat]
      and_intros
      all_goals first | with_reducible rfl | omega | (grind)
  · cases h)
@[go_sem] def S20 : List Spec := sMin :: sMax :: S13
theorem S20_ok : AllOk Try.prog S20 := ⟨sMin_ok, sMax_ok, S13_ok⟩
@[go_sem] def sJoin2 : Spec := spN 30 fun l => match l with
  | [([a1, a2, a3, a4, a5, a6], K), ([b1, b2, b3, b4, b5, b6], L)] => some (⟨.inl (cn [mn a1 b1, mn a2 b2, mn a3 b3, mx a4 b4, mx a5 b5, mx a6 b6] (max K L))⟩, 1 ≤ K ∧ 1 ≤ L ∧ K + L + 1 ≤ 17179869184)
  | _ => none
set_option maxHeartbeats 16000000 in
theorem sJoin2_ok : SpecOk Try.prog sJoin2 := SpecOk.mk' Try.func30 (by kernel_rfl) (by kernel_rfl) (spN_at fun l r p h hp => by
  split at h
  · rename_i a1 a2 a3 a4 a5 a6 K b1 b2 b3 b4 b5 b6 L
    cases h
    have i0 : ((0 : Int) : Rat) / ((1 : Int) : Rat) = 0 := by decide +kernel
    have i1 : ((1 : Int) : Rat) / ((1 : Int) : Rat) = 1 := by decide +kernel
    refine At.ok (fuel := 60) (hs := []) S20_ok Try.func30 (by kernel_rfl) ?_
    simp (maxSteps := 10000000) only [Try.f30, go_sem, i0, i1, Nat.reduceAdd, Nat.reduceSub, Nat.reduceMul, Int.reduceAdd, Int.reduceSub, Int.reduceToNat]
    and_intros
    all_goals first | with_reducible rfl | omega | (grind)
  · cases h)
@[go_sem] def S21 : List Spec := sJoin2 :: S20
theorem S21_ok : AllOk Try.prog S21 := ⟨sJoin2_ok, S20_ok⟩
end Go.Proofs.Ytbobhhnhlgdkiaa.Sy
