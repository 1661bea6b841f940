/- Package tri, by runs 2. -/
import Derived.Test.YtbobhhnhlgdkiaaJN
namespace Go.Proofs.Ytbobhhnhlgdkiaa.Sy
open Go Go.RowKit M Kahn
set_option maxRecDepth 1000000
set_option linter.unusedSimpArgs false
set_option linter.unusedVariables false

theorem qsgn_le {q : Rat} : qsgn q ≤ 0 ↔ q ≤ 0 := by rcases qsgn_cases q with ⟨h, k⟩ | ⟨h, k⟩ | ⟨h, k⟩ <;> grind
theorem qsgn_lt {q : Rat} : qsgn q < 0 ↔ q < 0 := by rcases qsgn_cases q with ⟨h, k⟩ | ⟨h, k⟩ | ⟨h, k⟩ <;> grind
theorem qsgn_gt {q : Rat} : qsgn q > 0 ↔ q > 0 := by rcases qsgn_cases q with ⟨h, k⟩ | ⟨h, k⟩ | ⟨h, k⟩ <;> grind
theorem qsgn_ge {q : Rat} : qsgn q ≥ 0 ↔ q ≥ 0 := by rcases qsgn_cases q with ⟨h, k⟩ | ⟨h, k⟩ | ⟨h, k⟩ <;> grind
/-- Whether what is so far along the ray, and there in the triangle, is met. -/
def htOk (s u v : Rat) : Bool := decide (0 < s ∧ 0 ≤ u ∧ 0 ≤ v ∧ u + v ≤ 1)
/-- A number that is told of it. -/
def ht (s u v x : Rat) : Rat := if htOk s u v then x else 0
section
variable {s u v : Rat}
end
@[go_sem] def sTAt : Spec := spN 16 fun l => match l with
  | [([o1, o2, o3], K), ([d1, d2, d3], L), ([s], M)] => some (⟨.inl (cn [o1 + s * d1, o2 + s * d2, o3 + s * d3] (3 * max K (L + M) + 3))⟩, 1 ≤ K ∧ 1 ≤ L ∧ 1 ≤ M ∧ 4 * (K + L + M) + 4 ≤ 4294967296)
  | _ => none
set_option maxHeartbeats 16000000 in
theorem sTAt_ok : SpecOk Try.prog sTAt := SpecOk.mk' Try.func16 (by kernel_rfl) (by kernel_rfl) (spN_at fun l r p h hp => by
  split at h
  · rename_i o1 o2 o3 K d1 d2 d3 L s M
    cases h
    have i0 : ((0 : Int) : Rat) / ((1 : Int) : Rat) = 0 := by decide +kernel
    have i1 : ((1 : Int) : Rat) / ((1 : Int) : Rat) = 1 := by decide +kernel
    have ih : ((1 : Int) : Rat) / ((2 : Int) : Rat) = 1 / 2 := by decide +kernel
    refine At.ok (fuel := 60) (hs := []) S2_ok Try.func16 (by kernel_rfl) ?_
    simp (maxSteps := 10000000) only [Try.f16, go_sem, i0, i1, ih, Nat.reduceAdd, Nat.reduceSub, Nat.reduceMul, Int.reduceAdd, Int.reduceSub, Int.reduceToNat]
    and_intros
    all_goals first | with_reducible rfl | omega | (grind)
  · cases h)
@[go_sem] def S13 : List Spec := sTAt :: S2
theorem S13_ok : AllOk Try.prog S13 := ⟨sTAt_ok, S2_ok⟩
end Go.Proofs.Ytbobhhnhlgdkiaa.Sy

/- penumbraref08, by runs 2. -/
namespace Go.Proofs.Ytbobhhnhlgdkiaa.Sy
open Go Go.RowKit M Kahn
set_option maxRecDepth 1000000
set_option linter.unusedSimpArgs false
set_option linter.unusedVariables false

end Go.Proofs.Ytbobhhnhlgdkiaa.Sy
