/- Lengths: what is a root, and the length of what is so many times as long. -/
import Derived.Test.YtmbemidacilakaaAq
namespace Go.Proofs.Ytmbemidacilakaa
open Go.RowKit M Kahn

theorem qsqrt_sq {n : Rat} (h : qsq n = true) : qsqrt n * qsqrt n = n := by
  have h' := h
  unfold qsq at h'
  obtain ⟨h1, h2, h3⟩ := of_decide_eq_true h'
  unfold qsqrt
  rw [h, if_pos rfl, rq_mul, h2, h3]
  have := rq_self n
  rw [decide_eq_false h1] at this
  exact this
theorem qsqrt_nn (n : Rat) : 0 ≤ qsqrt n := by
  unfold qsqrt
  split
  · rcases qsgn_cases (rq false (isq n.num.natAbs) (isq n.den)) with ⟨h, _⟩ | ⟨_, h⟩ | ⟨_, h⟩
    · rw [qsgn_rq] at h; split at h <;> simp at h
    · rw [h]; exact Rat.le_refl
    · exact Rat.le_of_lt h
  · exact Rat.le_refl
theorem qabs_cases (q : Rat) : (qsgn q = -1 ∧ q < 0 ∧ qabs q = -q) ∨ (qsgn q = 0 ∧ q = 0 ∧ qabs q = q) ∨ (qsgn q = 1 ∧ 0 < q ∧ qabs q = q) := by
  have hn : q < 0 ↔ q.num < 0 := by
    rw [← qsgn_neg]; unfold qsgn
    split
    · simp_all
    · split <;> simp_all
  unfold qabs
  rcases qsgn_cases q with ⟨h, h'⟩ | ⟨h, h'⟩ | ⟨h, h'⟩
  · exact .inl ⟨h, h', if_pos (hn.1 h')⟩
  · exact .inr (.inl ⟨h, h', if_neg (fun c => by have := hn.2 c; grind)⟩)
  · exact .inr (.inr ⟨h, h', if_neg (fun c => by have := hn.2 c; grind)⟩)
/-- What has a length. -/
theorem uok_len {n : Rat} (h : uok n = true) : ∃ l : Rat, 0 < l ∧ n = l * l ∧ ul n = l ∧ ∀ x, uv n x = 1 / l * x := by
  have h' := h
  unfold uok at h'
  rw [Bool.and_eq_true] at h'
  have h2 := of_decide_eq_true h'.2
  have h3 := qsqrt_nn n
  refine ⟨qsqrt n, by grind, (qsqrt_sq h'.1).symm, by unfold ul; rw [h, if_pos rfl], fun x => by unfold uv; rw [h, if_pos rfl]⟩
/-- The length of a square. -/
theorem uok_square (m : Rat) : uok (m * m) = decide (m ≠ 0) ∧ ul (m * m) = (if m = 0 then 0 else qabs m) ∧ ∀ x, uv (m * m) x = if m = 0 then 0 else 1 / qabs m * x := by
  obtain ⟨h1, h2⟩ := qsq_square m
  have h3 : uok (m * m) = decide (m ≠ 0) := by
    unfold uok
    rw [h1, h2, Bool.true_and, decide_eq_decide]
    rcases qabs_cases m with ⟨_, h, e⟩ | ⟨_, h, e⟩ | ⟨_, h, e⟩ <;> rw [e] <;> grind
  refine ⟨h3, ?_, fun x => ?_⟩
  · unfold ul; rw [h3, h2]; by_cases h : m = 0 <;> simp [h]
  · unfold uv; rw [h3, h2]; by_cases h : m = 0 <;> simp [h]
end Go.Proofs.Ytmbemidacilakaa
