/- Package tri, by runs 2. -/
import Derived.Test.YtbobhhnhlgdkiaaGreatJN
namespace Go.Proofs.YtbobhhnhlgdkiaaGreat.Sy
open Go Go.RowKit M Kahn
set_option maxRecDepth 1000000
set_option linter.unusedSimpArgs false
set_option linter.unusedVariables false

theorem qsgn_le {q : Rat} : qsgn q ≤ 0 ↔ q ≤ 0 := by rcases qsgn_cases q with ⟨h, k⟩ | ⟨h, k⟩ | ⟨h, k⟩ <;> grind
theorem qsgn_lt {q : Rat} : qsgn q < 0 ↔ q < 0 := by rcases qsgn_cases q with ⟨h, k⟩ | ⟨h, k⟩ | ⟨h, k⟩ <;> grind
theorem qsgn_gt {q : Rat} : qsgn q > 0 ↔ q > 0 := by rcases qsgn_cases q with ⟨h, k⟩ | ⟨h, k⟩ | ⟨h, k⟩ <;> grind
theorem qsgn_ge {q : Rat} : qsgn q ≥ 0 ↔ q ≥ 0 := by rcases qsgn_cases q with ⟨h, k⟩ | ⟨h, k⟩ | ⟨h, k⟩ <;> grind
theorem div_z (q : Rat) : q / 0 = 0 := by rw [Rat.div_def]; grind
/-- Whether what is so far along the ray, and there in the triangle, is met. -/
def htOk (s u v : Rat) : Bool := decide (0 < s ∧ 0 ≤ u ∧ 0 ≤ v ∧ u + v ≤ 1)
/-- A number that is told of it. -/
def ht (s u v x : Rat) : Rat := if htOk s u v then x else 0
section
variable {s u v : Rat}
theorem ht_yes (h : htOk s u v = true) (x : Rat) : ht s u v x = x := by unfold ht; rw [h]; rfl
theorem ht_no (h : htOk s u v = false) (x : Rat) : ht s u v x = 0 := by unfold ht; rw [h]; rfl
theorem no_s (h : s ≤ 0) : htOk s u v = false := by unfold htOk; exact decide_eq_false (by grind)
theorem no_u (h : u < 0) : htOk s u v = false := by unfold htOk; exact decide_eq_false (by grind)
theorem no_v (h : v < 0) : htOk s u v = false := by unfold htOk; exact decide_eq_false (by grind)
theorem no_w (h : u + v - 1 > 0) : htOk s u v = false := by unfold htOk; exact decide_eq_false (by grind)
theorem yes_all (h1 : ¬ s ≤ 0) (h2 : ¬ u < 0) (h3 : ¬ v < 0) (h4 : ¬ u + v - 1 > 0) : htOk s u v = true := by unfold htOk; exact decide_eq_true (by grind)
theorem of_yes (h : htOk s u v = true) : 0 < s ∧ 0 ≤ u ∧ 0 ≤ v ∧ u + v ≤ 1 := by unfold htOk at h; exact of_decide_eq_true h
end
theorem neg_zero' {q : Rat} (h : -q = 0) : q = 0 := by grind
@[go_sem] def sTSides : Spec := spN 32 fun l => match l with
  | [([a1, a2, a3, b1, b2, b3, c1, c2, c3], K)] => some (⟨.inr [cn [b1 - a1, b2 - a2, b3 - a3] (2 * K + 1), cn [c1 - a1, c2 - a2, c3 - a3] (2 * K + 1)]⟩, 1 ≤ K ∧ 8 * K + 8 ≤ 1073741824)
  | _ => none
set_option maxHeartbeats 16000000 in
theorem sTSides_ok : SpecOk Tryz.prog sTSides := SpecOk.mk' Tryz.func32 (by kernel_rfl) (by kernel_rfl) (spN_at fun l r p h hp => by
  split at h
  · rename_i a1 a2 a3 b1 b2 b3 c1 c2 c3 K
    cases h
    have i0 : ((0 : Int) : Rat) / ((1 : Int) : Rat) = 0 := by decide +kernel
    have i1 : ((1 : Int) : Rat) / ((1 : Int) : Rat) = 1 := by decide +kernel
    have ih : ((1 : Int) : Rat) / ((2 : Int) : Rat) = 1 / 2 := by decide +kernel
    refine At.ok (fuel := 60) (hs := []) S3_ok Tryz.func32 (by kernel_rfl) ?_
    simp (maxSteps := 10000000) only [Tryz.f32, go_sem, i0, i1, ih, Nat.reduceAdd, Nat.reduceSub, Nat.reduceMul, Int.reduceAdd, Int.reduceSub, Int.reduceToNat]
    and_intros
    all_goals first | with_reducible rfl | omega | (grind)
  · cases h)
@[go_sem] def sTMissed : Spec := ⟨38, fun xs => match xs with
  | [] => some (⟨.inr [cn [0, 0, 0] (2), .held (.inr (.inl (.bool false)))]⟩, True)
  | _ => none, nomem⟩
set_option maxHeartbeats 8000000 in
theorem sTMissed_ok : SpecOk Tryz.prog sTMissed := SpecOk.mk' Tryz.func38 (by kernel_rfl) (by kernel_rfl) (fun xs r p h hp => by
  simp only [sTMissed] at h
  split at h
  · cases h
    have i0 : ((0 : Int) : Rat) / ((1 : Int) : Rat) = 0 := by decide +kernel
    have i1 : ((1 : Int) : Rat) / ((1 : Int) : Rat) = 1 := by decide +kernel
    have ih : ((1 : Int) : Rat) / ((2 : Int) : Rat) = 1 / 2 := by decide +kernel
    refine At.ok (fuel := 60) (hs := []) S3_ok Tryz.func38 (by kernel_rfl) ?_
    simp (maxSteps := 10000000) only [Tryz.f38, go_sem, i0, i1, ih, Nat.reduceAdd, Nat.reduceSub, Nat.reduceMul, Int.reduceAdd, Int.reduceSub, Int.reduceToNat]
    and_intros
    all_goals first | with_reducible rfl | omega | (grind)
  · cases h)
@[go_sem] def S13 : List Spec := sTSides :: sTMissed :: S3
theorem S13_ok : AllOk Tryz.prog S13 := ⟨sTSides_ok, sTMissed_ok, S3_ok⟩
@[go_sem] def sTHit : Spec := spN 11 fun l => match l with
  | [([o1, o2, o3], K), ([d1, d2, d3], L), ([a1, a2, a3, b1, b2, b3, c1, c2, c3], M)] => some (⟨.inr [cn [ht ((((b2 - a2) * (c3 - a3) - (b3 - a3) * (c2 - a2)) * (a1 - o1) + ((b3 - a3) * (c1 - a1) - (b1 - a1) * (c3 - a3)) * (a2 - o2) + ((b1 - a1) * (c2 - a2) - (b2 - a2) * (c1 - a1)) * (a3 - o3)) / (((b2 - a2) * (c3 - a3) - (b3 - a3) * (c2 - a2)) * d1 + ((b3 - a3) * (c1 - a1) - (b1 - a1) * (c3 - a3)) * d2 + ((b1 - a1) * (c2 - a2) - (b2 - a2) * (c1 - a1)) * d3)) ((((a2 - o2) * d3 - (a3 - o3) * d2) * (c1 - a1) + ((a3 - o3) * d1 - (a1 - o1) * d3) * (c2 - a2) + ((a1 - o1) * d2 - (a2 - o2) * d1) * (c3 - a3)) / (((b2 - a2) * (c3 - a3) - (b3 - a3) * (c2 - a2)) * d1 + ((b3 - a3) * (c1 - a1) - (b1 - a1) * (c3 - a3)) * d2 + ((b1 - a1) * (c2 - a2) - (b2 - a2) * (c1 - a1)) * d3)) ((((a2 - o2) * d3 - (a3 - o3) * d2) * (b1 - a1) + ((a3 - o3) * d1 - (a1 - o1) * d3) * (b2 - a2) + ((a1 - o1) * d2 - (a2 - o2) * d1) * (b3 - a3)) / (-(((b2 - a2) * (c3 - a3) - (b3 - a3) * (c2 - a2)) * d1 + ((b3 - a3) * (c1 - a1) - (b1 - a1) * (c3 - a3)) * d2 + ((b1 - a1) * (c2 - a2) - (b2 - a2) * (c1 - a1)) * d3))) ((((b2 - a2) * (c3 - a3) - (b3 - a3) * (c2 - a2)) * (a1 - o1) + ((b3 - a3) * (c1 - a1) - (b1 - a1) * (c3 - a3)) * (a2 - o2) + ((b1 - a1) * (c2 - a2) - (b2 - a2) * (c1 - a1)) * (a3 - o3)) / (((b2 - a2) * (c3 - a3) - (b3 - a3) * (c2 - a2)) * d1 + ((b3 - a3) * (c1 - a1) - (b1 - a1) * (c3 - a3)) * d2 + ((b1 - a1) * (c2 - a2) - (b2 - a2) * (c1 - a1)) * d3)), ht ((((b2 - a2) * (c3 - a3) - (b3 - a3) * (c2 - a2)) * (a1 - o1) + ((b3 - a3) * (c1 - a1) - (b1 - a1) * (c3 - a3)) * (a2 - o2) + ((b1 - a1) * (c2 - a2) - (b2 - a2) * (c1 - a1)) * (a3 - o3)) / (((b2 - a2) * (c3 - a3) - (b3 - a3) * (c2 - a2)) * d1 + ((b3 - a3) * (c1 - a1) - (b1 - a1) * (c3 - a3)) * d2 + ((b1 - a1) * (c2 - a2) - (b2 - a2) * (c1 - a1)) * d3)) ((((a2 - o2) * d3 - (a3 - o3) * d2) * (c1 - a1) + ((a3 - o3) * d1 - (a1 - o1) * d3) * (c2 - a2) + ((a1 - o1) * d2 - (a2 - o2) * d1) * (c3 - a3)) / (((b2 - a2) * (c3 - a3) - (b3 - a3) * (c2 - a2)) * d1 + ((b3 - a3) * (c1 - a1) - (b1 - a1) * (c3 - a3)) * d2 + ((b1 - a1) * (c2 - a2) - (b2 - a2) * (c1 - a1)) * d3)) ((((a2 - o2) * d3 - (a3 - o3) * d2) * (b1 - a1) + ((a3 - o3) * d1 - (a1 - o1) * d3) * (b2 - a2) + ((a1 - o1) * d2 - (a2 - o2) * d1) * (b3 - a3)) / (-(((b2 - a2) * (c3 - a3) - (b3 - a3) * (c2 - a2)) * d1 + ((b3 - a3) * (c1 - a1) - (b1 - a1) * (c3 - a3)) * d2 + ((b1 - a1) * (c2 - a2) - (b2 - a2) * (c1 - a1)) * d3))) ((((a2 - o2) * d3 - (a3 - o3) * d2) * (c1 - a1) + ((a3 - o3) * d1 - (a1 - o1) * d3) * (c2 - a2) + ((a1 - o1) * d2 - (a2 - o2) * d1) * (c3 - a3)) / (((b2 - a2) * (c3 - a3) - (b3 - a3) * (c2 - a2)) * d1 + ((b3 - a3) * (c1 - a1) - (b1 - a1) * (c3 - a3)) * d2 + ((b1 - a1) * (c2 - a2) - (b2 - a2) * (c1 - a1)) * d3)), ht ((((b2 - a2) * (c3 - a3) - (b3 - a3) * (c2 - a2)) * (a1 - o1) + ((b3 - a3) * (c1 - a1) - (b1 - a1) * (c3 - a3)) * (a2 - o2) + ((b1 - a1) * (c2 - a2) - (b2 - a2) * (c1 - a1)) * (a3 - o3)) / (((b2 - a2) * (c3 - a3) - (b3 - a3) * (c2 - a2)) * d1 + ((b3 - a3) * (c1 - a1) - (b1 - a1) * (c3 - a3)) * d2 + ((b1 - a1) * (c2 - a2) - (b2 - a2) * (c1 - a1)) * d3)) ((((a2 - o2) * d3 - (a3 - o3) * d2) * (c1 - a1) + ((a3 - o3) * d1 - (a1 - o1) * d3) * (c2 - a2) + ((a1 - o1) * d2 - (a2 - o2) * d1) * (c3 - a3)) / (((b2 - a2) * (c3 - a3) - (b3 - a3) * (c2 - a2)) * d1 + ((b3 - a3) * (c1 - a1) - (b1 - a1) * (c3 - a3)) * d2 + ((b1 - a1) * (c2 - a2) - (b2 - a2) * (c1 - a1)) * d3)) ((((a2 - o2) * d3 - (a3 - o3) * d2) * (b1 - a1) + ((a3 - o3) * d1 - (a1 - o1) * d3) * (b2 - a2) + ((a1 - o1) * d2 - (a2 - o2) * d1) * (b3 - a3)) / (-(((b2 - a2) * (c3 - a3) - (b3 - a3) * (c2 - a2)) * d1 + ((b3 - a3) * (c1 - a1) - (b1 - a1) * (c3 - a3)) * d2 + ((b1 - a1) * (c2 - a2) - (b2 - a2) * (c1 - a1)) * d3))) ((((a2 - o2) * d3 - (a3 - o3) * d2) * (b1 - a1) + ((a3 - o3) * d1 - (a1 - o1) * d3) * (b2 - a2) + ((a1 - o1) * d2 - (a2 - o2) * d1) * (b3 - a3)) / (-(((b2 - a2) * (c3 - a3) - (b3 - a3) * (c2 - a2)) * d1 + ((b3 - a3) * (c1 - a1) - (b1 - a1) * (c3 - a3)) * d2 + ((b1 - a1) * (c2 - a2) - (b2 - a2) * (c1 - a1)) * d3)))] (51 * M + 16 * K + 16 * L + 64), .held (.inr (.inl (.bool (htOk ((((b2 - a2) * (c3 - a3) - (b3 - a3) * (c2 - a2)) * (a1 - o1) + ((b3 - a3) * (c1 - a1) - (b1 - a1) * (c3 - a3)) * (a2 - o2) + ((b1 - a1) * (c2 - a2) - (b2 - a2) * (c1 - a1)) * (a3 - o3)) / (((b2 - a2) * (c3 - a3) - (b3 - a3) * (c2 - a2)) * d1 + ((b3 - a3) * (c1 - a1) - (b1 - a1) * (c3 - a3)) * d2 + ((b1 - a1) * (c2 - a2) - (b2 - a2) * (c1 - a1)) * d3)) ((((a2 - o2) * d3 - (a3 - o3) * d2) * (c1 - a1) + ((a3 - o3) * d1 - (a1 - o1) * d3) * (c2 - a2) + ((a1 - o1) * d2 - (a2 - o2) * d1) * (c3 - a3)) / (((b2 - a2) * (c3 - a3) - (b3 - a3) * (c2 - a2)) * d1 + ((b3 - a3) * (c1 - a1) - (b1 - a1) * (c3 - a3)) * d2 + ((b1 - a1) * (c2 - a2) - (b2 - a2) * (c1 - a1)) * d3)) ((((a2 - o2) * d3 - (a3 - o3) * d2) * (b1 - a1) + ((a3 - o3) * d1 - (a1 - o1) * d3) * (b2 - a2) + ((a1 - o1) * d2 - (a2 - o2) * d1) * (b3 - a3)) / (-(((b2 - a2) * (c3 - a3) - (b3 - a3) * (c2 - a2)) * d1 + ((b3 - a3) * (c1 - a1) - (b1 - a1) * (c3 - a3)) * d2 + ((b1 - a1) * (c2 - a2) - (b2 - a2) * (c1 - a1)) * d3)))))))]⟩, 1 ≤ K ∧ 1 ≤ L ∧ 1 ≤ M ∧ 64 * M + 64 ≤ 1073741824 ∧ 51 * M + 16 * K + 16 * L + 64 ≤ 1073741824)
  | _ => none
set_option maxHeartbeats 16000000 in
theorem sTHit_ok : SpecOk Tryz.prog sTHit := SpecOk.mk' Tryz.func11 (by kernel_rfl) (by kernel_rfl) (spN_at fun l r p h hp => by
  split at h
  · rename_i o1 o2 o3 K d1 d2 d3 L a1 a2 a3 b1 b2 b3 c1 c2 c3 M
    cases h
    have i0 : ((0 : Int) : Rat) / ((1 : Int) : Rat) = 0 := by decide +kernel
    have i1 : ((1 : Int) : Rat) / ((1 : Int) : Rat) = 1 := by decide +kernel
    have ih : ((1 : Int) : Rat) / ((2 : Int) : Rat) = 1 / 2 := by decide +kernel
    by_cases hD : ((b2 - a2) * (c3 - a3) - (b3 - a3) * (c2 - a2)) * d1 + ((b3 - a3) * (c1 - a1) - (b1 - a1) * (c3 - a3)) * d2 + ((b1 - a1) * (c2 - a2) - (b2 - a2) * (c1 - a1)) * d3 = 0
    · have hz : (((b2 - a2) * (c3 - a3) - (b3 - a3) * (c2 - a2)) * (a1 - o1) + ((b3 - a3) * (c1 - a1) - (b1 - a1) * (c3 - a3)) * (a2 - o2) + ((b1 - a1) * (c2 - a2) - (b2 - a2) * (c1 - a1)) * (a3 - o3)) / (((b2 - a2) * (c3 - a3) - (b3 - a3) * (c2 - a2)) * d1 + ((b3 - a3) * (c1 - a1) - (b1 - a1) * (c3 - a3)) * d2 + ((b1 - a1) * (c2 - a2) - (b2 - a2) * (c1 - a1)) * d3) = 0 := by rw [hD]; exact div_z _
      have hk : htOk ((((b2 - a2) * (c3 - a3) - (b3 - a3) * (c2 - a2)) * (a1 - o1) + ((b3 - a3) * (c1 - a1) - (b1 - a1) * (c3 - a3)) * (a2 - o2) + ((b1 - a1) * (c2 - a2) - (b2 - a2) * (c1 - a1)) * (a3 - o3)) / (((b2 - a2) * (c3 - a3) - (b3 - a3) * (c2 - a2)) * d1 + ((b3 - a3) * (c1 - a1) - (b1 - a1) * (c3 - a3)) * d2 + ((b1 - a1) * (c2 - a2) - (b2 - a2) * (c1 - a1)) * d3)) ((((a2 - o2) * d3 - (a3 - o3) * d2) * (c1 - a1) + ((a3 - o3) * d1 - (a1 - o1) * d3) * (c2 - a2) + ((a1 - o1) * d2 - (a2 - o2) * d1) * (c3 - a3)) / (((b2 - a2) * (c3 - a3) - (b3 - a3) * (c2 - a2)) * d1 + ((b3 - a3) * (c1 - a1) - (b1 - a1) * (c3 - a3)) * d2 + ((b1 - a1) * (c2 - a2) - (b2 - a2) * (c1 - a1)) * d3)) ((((a2 - o2) * d3 - (a3 - o3) * d2) * (b1 - a1) + ((a3 - o3) * d1 - (a1 - o1) * d3) * (b2 - a2) + ((a1 - o1) * d2 - (a2 - o2) * d1) * (b3 - a3)) / (-(((b2 - a2) * (c3 - a3) - (b3 - a3) * (c2 - a2)) * d1 + ((b3 - a3) * (c1 - a1) - (b1 - a1) * (c3 - a3)) * d2 + ((b1 - a1) * (c2 - a2) - (b2 - a2) * (c1 - a1)) * d3))) = false := no_s (by rw [hz]; exact Rat.le_refl)
      have y1 := ht_no hk
      rw [hk, y1, y1, y1]
      refine At.ok (fuel := 60) (hs := [false, true, false]) S13_ok Tryz.func11 (by kernel_rfl) ?_
      simp (maxSteps := 10000000) only [Tryz.f11, go_sem, i0, i1, ih, decide_eq_true_eq, decide_eq_false_iff_not, ne_eq, not_true_eq_false, not_false_eq_true, Decidable.not_not, beq_iff_eq, beq_eq_false_iff_ne, bne_eq_false_iff_eq, bne_iff_ne, qsgn_zero, qsgn_le, qsgn_lt, qsgn_gt, hD, div_z, Rat.le_refl, Nat.reduceAdd, Nat.reduceSub, Nat.reduceMul, Int.reduceAdd, Int.reduceSub, Int.reduceToNat]
      and_intros
      all_goals first | with_reducible rfl | omega | (grind)
    have hM : ¬ -(((b2 - a2) * (c3 - a3) - (b3 - a3) * (c2 - a2)) * d1 + ((b3 - a3) * (c1 - a1) - (b1 - a1) * (c3 - a3)) * d2 + ((b1 - a1) * (c2 - a2) - (b2 - a2) * (c1 - a1)) * d3) = 0 := fun h => hD (neg_zero' h)
    by_cases h1 : (((b2 - a2) * (c3 - a3) - (b3 - a3) * (c2 - a2)) * (a1 - o1) + ((b3 - a3) * (c1 - a1) - (b1 - a1) * (c3 - a3)) * (a2 - o2) + ((b1 - a1) * (c2 - a2) - (b2 - a2) * (c1 - a1)) * (a3 - o3)) / (((b2 - a2) * (c3 - a3) - (b3 - a3) * (c2 - a2)) * d1 + ((b3 - a3) * (c1 - a1) - (b1 - a1) * (c3 - a3)) * d2 + ((b1 - a1) * (c2 - a2) - (b2 - a2) * (c1 - a1)) * d3) ≤ 0
    · have hk : htOk ((((b2 - a2) * (c3 - a3) - (b3 - a3) * (c2 - a2)) * (a1 - o1) + ((b3 - a3) * (c1 - a1) - (b1 - a1) * (c3 - a3)) * (a2 - o2) + ((b1 - a1) * (c2 - a2) - (b2 - a2) * (c1 - a1)) * (a3 - o3)) / (((b2 - a2) * (c3 - a3) - (b3 - a3) * (c2 - a2)) * d1 + ((b3 - a3) * (c1 - a1) - (b1 - a1) * (c3 - a3)) * d2 + ((b1 - a1) * (c2 - a2) - (b2 - a2) * (c1 - a1)) * d3)) ((((a2 - o2) * d3 - (a3 - o3) * d2) * (c1 - a1) + ((a3 - o3) * d1 - (a1 - o1) * d3) * (c2 - a2) + ((a1 - o1) * d2 - (a2 - o2) * d1) * (c3 - a3)) / (((b2 - a2) * (c3 - a3) - (b3 - a3) * (c2 - a2)) * d1 + ((b3 - a3) * (c1 - a1) - (b1 - a1) * (c3 - a3)) * d2 + ((b1 - a1) * (c2 - a2) - (b2 - a2) * (c1 - a1)) * d3)) ((((a2 - o2) * d3 - (a3 - o3) * d2) * (b1 - a1) + ((a3 - o3) * d1 - (a1 - o1) * d3) * (b2 - a2) + ((a1 - o1) * d2 - (a2 - o2) * d1) * (b3 - a3)) / (-(((b2 - a2) * (c3 - a3) - (b3 - a3) * (c2 - a2)) * d1 + ((b3 - a3) * (c1 - a1) - (b1 - a1) * (c3 - a3)) * d2 + ((b1 - a1) * (c2 - a2) - (b2 - a2) * (c1 - a1)) * d3))) = false := no_s h1
      have y1 := ht_no hk
      rw [hk, y1, y1, y1]
      refine At.ok (fuel := 60) (hs := [true, true, false]) S13_ok Tryz.func11 (by kernel_rfl) ?_
      simp (maxSteps := 10000000) only [Tryz.f11, go_sem, i0, i1, ih, decide_eq_true_eq, decide_eq_false_iff_not, ne_eq, not_true_eq_false, not_false_eq_true, Decidable.not_not, beq_iff_eq, beq_eq_false_iff_ne, bne_eq_false_iff_eq, bne_iff_ne, qsgn_zero, qsgn_le, qsgn_lt, qsgn_gt, h1, hD, hM, Nat.reduceAdd, Nat.reduceSub, Nat.reduceMul, Int.reduceAdd, Int.reduceSub, Int.reduceToNat]
      and_intros
      all_goals first | with_reducible rfl | omega | (grind)
    by_cases h2 : (((a2 - o2) * d3 - (a3 - o3) * d2) * (c1 - a1) + ((a3 - o3) * d1 - (a1 - o1) * d3) * (c2 - a2) + ((a1 - o1) * d2 - (a2 - o2) * d1) * (c3 - a3)) / (((b2 - a2) * (c3 - a3) - (b3 - a3) * (c2 - a2)) * d1 + ((b3 - a3) * (c1 - a1) - (b1 - a1) * (c3 - a3)) * d2 + ((b1 - a1) * (c2 - a2) - (b2 - a2) * (c1 - a1)) * d3) < 0
    · have hk : htOk ((((b2 - a2) * (c3 - a3) - (b3 - a3) * (c2 - a2)) * (a1 - o1) + ((b3 - a3) * (c1 - a1) - (b1 - a1) * (c3 - a3)) * (a2 - o2) + ((b1 - a1) * (c2 - a2) - (b2 - a2) * (c1 - a1)) * (a3 - o3)) / (((b2 - a2) * (c3 - a3) - (b3 - a3) * (c2 - a2)) * d1 + ((b3 - a3) * (c1 - a1) - (b1 - a1) * (c3 - a3)) * d2 + ((b1 - a1) * (c2 - a2) - (b2 - a2) * (c1 - a1)) * d3)) ((((a2 - o2) * d3 - (a3 - o3) * d2) * (c1 - a1) + ((a3 - o3) * d1 - (a1 - o1) * d3) * (c2 - a2) + ((a1 - o1) * d2 - (a2 - o2) * d1) * (c3 - a3)) / (((b2 - a2) * (c3 - a3) - (b3 - a3) * (c2 - a2)) * d1 + ((b3 - a3) * (c1 - a1) - (b1 - a1) * (c3 - a3)) * d2 + ((b1 - a1) * (c2 - a2) - (b2 - a2) * (c1 - a1)) * d3)) ((((a2 - o2) * d3 - (a3 - o3) * d2) * (b1 - a1) + ((a3 - o3) * d1 - (a1 - o1) * d3) * (b2 - a2) + ((a1 - o1) * d2 - (a2 - o2) * d1) * (b3 - a3)) / (-(((b2 - a2) * (c3 - a3) - (b3 - a3) * (c2 - a2)) * d1 + ((b3 - a3) * (c1 - a1) - (b1 - a1) * (c3 - a3)) * d2 + ((b1 - a1) * (c2 - a2) - (b2 - a2) * (c1 - a1)) * d3))) = false := no_u h2
      have y1 := ht_no hk
      rw [hk, y1, y1, y1]
      refine At.ok (fuel := 60) (hs := [true, false, true, true, false]) S13_ok Tryz.func11 (by kernel_rfl) ?_
      simp (maxSteps := 10000000) only [Tryz.f11, go_sem, i0, i1, ih, decide_eq_true_eq, decide_eq_false_iff_not, ne_eq, not_true_eq_false, not_false_eq_true, Decidable.not_not, beq_iff_eq, beq_eq_false_iff_ne, bne_eq_false_iff_eq, bne_iff_ne, qsgn_zero, qsgn_le, qsgn_lt, qsgn_gt, h1, h2, hD, hM, Nat.reduceAdd, Nat.reduceSub, Nat.reduceMul, Int.reduceAdd, Int.reduceSub, Int.reduceToNat]
      and_intros
      all_goals first | with_reducible rfl | omega | (grind)
    by_cases h3 : (((a2 - o2) * d3 - (a3 - o3) * d2) * (b1 - a1) + ((a3 - o3) * d1 - (a1 - o1) * d3) * (b2 - a2) + ((a1 - o1) * d2 - (a2 - o2) * d1) * (b3 - a3)) / (-(((b2 - a2) * (c3 - a3) - (b3 - a3) * (c2 - a2)) * d1 + ((b3 - a3) * (c1 - a1) - (b1 - a1) * (c3 - a3)) * d2 + ((b1 - a1) * (c2 - a2) - (b2 - a2) * (c1 - a1)) * d3)) < 0
    · have hk : htOk ((((b2 - a2) * (c3 - a3) - (b3 - a3) * (c2 - a2)) * (a1 - o1) + ((b3 - a3) * (c1 - a1) - (b1 - a1) * (c3 - a3)) * (a2 - o2) + ((b1 - a1) * (c2 - a2) - (b2 - a2) * (c1 - a1)) * (a3 - o3)) / (((b2 - a2) * (c3 - a3) - (b3 - a3) * (c2 - a2)) * d1 + ((b3 - a3) * (c1 - a1) - (b1 - a1) * (c3 - a3)) * d2 + ((b1 - a1) * (c2 - a2) - (b2 - a2) * (c1 - a1)) * d3)) ((((a2 - o2) * d3 - (a3 - o3) * d2) * (c1 - a1) + ((a3 - o3) * d1 - (a1 - o1) * d3) * (c2 - a2) + ((a1 - o1) * d2 - (a2 - o2) * d1) * (c3 - a3)) / (((b2 - a2) * (c3 - a3) - (b3 - a3) * (c2 - a2)) * d1 + ((b3 - a3) * (c1 - a1) - (b1 - a1) * (c3 - a3)) * d2 + ((b1 - a1) * (c2 - a2) - (b2 - a2) * (c1 - a1)) * d3)) ((((a2 - o2) * d3 - (a3 - o3) * d2) * (b1 - a1) + ((a3 - o3) * d1 - (a1 - o1) * d3) * (b2 - a2) + ((a1 - o1) * d2 - (a2 - o2) * d1) * (b3 - a3)) / (-(((b2 - a2) * (c3 - a3) - (b3 - a3) * (c2 - a2)) * d1 + ((b3 - a3) * (c1 - a1) - (b1 - a1) * (c3 - a3)) * d2 + ((b1 - a1) * (c2 - a2) - (b2 - a2) * (c1 - a1)) * d3))) = false := no_v h3
      have y1 := ht_no hk
      rw [hk, y1, y1, y1]
      refine At.ok (fuel := 60) (hs := [true, false, true, false, true, true, false]) S13_ok Tryz.func11 (by kernel_rfl) ?_
      simp (maxSteps := 10000000) only [Tryz.f11, go_sem, i0, i1, ih, decide_eq_true_eq, decide_eq_false_iff_not, ne_eq, not_true_eq_false, not_false_eq_true, Decidable.not_not, beq_iff_eq, beq_eq_false_iff_ne, bne_eq_false_iff_eq, bne_iff_ne, qsgn_zero, qsgn_le, qsgn_lt, qsgn_gt, h1, h2, h3, hD, hM, Nat.reduceAdd, Nat.reduceSub, Nat.reduceMul, Int.reduceAdd, Int.reduceSub, Int.reduceToNat]
      and_intros
      all_goals first | with_reducible rfl | omega | (grind)
    by_cases h4 : (((a2 - o2) * d3 - (a3 - o3) * d2) * (c1 - a1) + ((a3 - o3) * d1 - (a1 - o1) * d3) * (c2 - a2) + ((a1 - o1) * d2 - (a2 - o2) * d1) * (c3 - a3)) / (((b2 - a2) * (c3 - a3) - (b3 - a3) * (c2 - a2)) * d1 + ((b3 - a3) * (c1 - a1) - (b1 - a1) * (c3 - a3)) * d2 + ((b1 - a1) * (c2 - a2) - (b2 - a2) * (c1 - a1)) * d3) + (((a2 - o2) * d3 - (a3 - o3) * d2) * (b1 - a1) + ((a3 - o3) * d1 - (a1 - o1) * d3) * (b2 - a2) + ((a1 - o1) * d2 - (a2 - o2) * d1) * (b3 - a3)) / (-(((b2 - a2) * (c3 - a3) - (b3 - a3) * (c2 - a2)) * d1 + ((b3 - a3) * (c1 - a1) - (b1 - a1) * (c3 - a3)) * d2 + ((b1 - a1) * (c2 - a2) - (b2 - a2) * (c1 - a1)) * d3)) - 1 > 0
    · have hk : htOk ((((b2 - a2) * (c3 - a3) - (b3 - a3) * (c2 - a2)) * (a1 - o1) + ((b3 - a3) * (c1 - a1) - (b1 - a1) * (c3 - a3)) * (a2 - o2) + ((b1 - a1) * (c2 - a2) - (b2 - a2) * (c1 - a1)) * (a3 - o3)) / (((b2 - a2) * (c3 - a3) - (b3 - a3) * (c2 - a2)) * d1 + ((b3 - a3) * (c1 - a1) - (b1 - a1) * (c3 - a3)) * d2 + ((b1 - a1) * (c2 - a2) - (b2 - a2) * (c1 - a1)) * d3)) ((((a2 - o2) * d3 - (a3 - o3) * d2) * (c1 - a1) + ((a3 - o3) * d1 - (a1 - o1) * d3) * (c2 - a2) + ((a1 - o1) * d2 - (a2 - o2) * d1) * (c3 - a3)) / (((b2 - a2) * (c3 - a3) - (b3 - a3) * (c2 - a2)) * d1 + ((b3 - a3) * (c1 - a1) - (b1 - a1) * (c3 - a3)) * d2 + ((b1 - a1) * (c2 - a2) - (b2 - a2) * (c1 - a1)) * d3)) ((((a2 - o2) * d3 - (a3 - o3) * d2) * (b1 - a1) + ((a3 - o3) * d1 - (a1 - o1) * d3) * (b2 - a2) + ((a1 - o1) * d2 - (a2 - o2) * d1) * (b3 - a3)) / (-(((b2 - a2) * (c3 - a3) - (b3 - a3) * (c2 - a2)) * d1 + ((b3 - a3) * (c1 - a1) - (b1 - a1) * (c3 - a3)) * d2 + ((b1 - a1) * (c2 - a2) - (b2 - a2) * (c1 - a1)) * d3))) = false := no_w h4
      have y1 := ht_no hk
      rw [hk, y1, y1, y1]
      refine At.ok (fuel := 60) (hs := [true, false, true, false, true, false, true, false]) S13_ok Tryz.func11 (by kernel_rfl) ?_
      simp (maxSteps := 10000000) only [Tryz.f11, go_sem, i0, i1, ih, decide_eq_true_eq, decide_eq_false_iff_not, ne_eq, not_true_eq_false, not_false_eq_true, Decidable.not_not, beq_iff_eq, beq_eq_false_iff_ne, bne_eq_false_iff_eq, bne_iff_ne, qsgn_zero, qsgn_le, qsgn_lt, qsgn_gt, h1, h2, h3, h4, hD, hM, Nat.reduceAdd, Nat.reduceSub, Nat.reduceMul, Int.reduceAdd, Int.reduceSub, Int.reduceToNat]
      and_intros
      all_goals first | with_reducible rfl | omega | (grind)
    · have hk : htOk ((((b2 - a2) * (c3 - a3) - (b3 - a3) * (c2 - a2)) * (a1 - o1) + ((b3 - a3) * (c1 - a1) - (b1 - a1) * (c3 - a3)) * (a2 - o2) + ((b1 - a1) * (c2 - a2) - (b2 - a2) * (c1 - a1)) * (a3 - o3)) / (((b2 - a2) * (c3 - a3) - (b3 - a3) * (c2 - a2)) * d1 + ((b3 - a3) * (c1 - a1) - (b1 - a1) * (c3 - a3)) * d2 + ((b1 - a1) * (c2 - a2) - (b2 - a2) * (c1 - a1)) * d3)) ((((a2 - o2) * d3 - (a3 - o3) * d2) * (c1 - a1) + ((a3 - o3) * d1 - (a1 - o1) * d3) * (c2 - a2) + ((a1 - o1) * d2 - (a2 - o2) * d1) * (c3 - a3)) / (((b2 - a2) * (c3 - a3) - (b3 - a3) * (c2 - a2)) * d1 + ((b3 - a3) * (c1 - a1) - (b1 - a1) * (c3 - a3)) * d2 + ((b1 - a1) * (c2 - a2) - (b2 - a2) * (c1 - a1)) * d3)) ((((a2 - o2) * d3 - (a3 - o3) * d2) * (b1 - a1) + ((a3 - o3) * d1 - (a1 - o1) * d3) * (b2 - a2) + ((a1 - o1) * d2 - (a2 - o2) * d1) * (b3 - a3)) / (-(((b2 - a2) * (c3 - a3) - (b3 - a3) * (c2 - a2)) * d1 + ((b3 - a3) * (c1 - a1) - (b1 - a1) * (c3 - a3)) * d2 + ((b1 - a1) * (c2 - a2) - (b2 - a2) * (c1 - a1)) * d3))) = true := yes_all h1 h2 h3 h4
      have y1 := ht_yes hk
      rw [hk, y1, y1, y1]
      refine At.ok (fuel := 60) (hs := [true, false, true, false, true, false, false]) S13_ok Tryz.func11 (by kernel_rfl) ?_
      simp (maxSteps := 10000000) only [Tryz.f11, go_sem, i0, i1, ih, decide_eq_true_eq, decide_eq_false_iff_not, ne_eq, not_true_eq_false, not_false_eq_true, Decidable.not_not, beq_iff_eq, beq_eq_false_iff_ne, bne_eq_false_iff_eq, bne_iff_ne, qsgn_zero, qsgn_le, qsgn_lt, qsgn_gt, h1, h2, h3, h4, hD, hM, Nat.reduceAdd, Nat.reduceSub, Nat.reduceMul, Int.reduceAdd, Int.reduceSub, Int.reduceToNat]
      and_intros
      all_goals first | with_reducible rfl | omega | (grind)
  · cases h)
@[go_sem] def S15 : List Spec := sTHit :: S13
theorem S15_ok : AllOk Tryz.prog S15 := ⟨sTHit_ok, S13_ok⟩
end Go.Proofs.YtbobhhnhlgdkiaaGreat.Sy

/- penumbraref08, by runs 2. -/
namespace Go.Proofs.YtbobhhnhlgdkiaaGreat.Sy
open Go Go.RowKit M Kahn
set_option maxRecDepth 1000000
set_option linter.unusedSimpArgs false
set_option linter.unusedVariables false

@[go_sem] def s8At : Spec := spN 13 fun l => match l with
  | [([o1, o2, o3], K), ([d1, d2, d3], L), ([s], M)] => some (⟨.inl (cn [o1 + s * d1, o2 + s * d2, o3 + s * d3] (K + L + M + 1))⟩, 1 ≤ K ∧ 1 ≤ L ∧ 1 ≤ M ∧ 8 * (K + L + M) + 8 ≤ 17179869184)
  | _ => none
set_option maxHeartbeats 16000000 in
theorem s8At_ok : SpecOk Tryz.prog s8At := SpecOk.mk' Tryz.func13 (by kernel_rfl) (by kernel_rfl) (spN_at fun l r p h hp => by
  split at h
  · rename_i o1 o2 o3 K d1 d2 d3 L s M
    cases h
    have i0 : ((0 : Int) : Rat) / ((1 : Int) : Rat) = 0 := by decide +kernel
    have i1 : ((1 : Int) : Rat) / ((1 : Int) : Rat) = 1 := by decide +kernel
    have ih : ((1 : Int) : Rat) / ((2 : Int) : Rat) = 1 / 2 := by decide +kernel
    refine At.ok (fuel := 60) (hs := []) S15_ok Tryz.func13 (by kernel_rfl) ?_
    simp (maxSteps := 10000000) only [Tryz.f13, go_sem, i0, i1, ih, Nat.reduceAdd, Nat.reduceSub, Nat.reduceMul, Int.reduceAdd, Int.reduceSub, Int.reduceToNat]
    and_intros
    all_goals first | with_reducible rfl | omega | (grind)
  · cases h)
@[go_sem] def S16 : List Spec := s8At :: S15
theorem S16_ok : AllOk Tryz.prog S16 := ⟨s8At_ok, S15_ok⟩
end Go.Proofs.YtbobhhnhlgdkiaaGreat.Sy
