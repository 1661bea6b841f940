/- The square root, as a function on naturals. -/
import Derived.Test.YthcclkjccaoniaaMd
namespace Go.Proofs.Ythcclkjccaoniaa.M

/-- The greatest number whose square is not above n. -/
def isq : Nat → Nat
  | 0 => 0
  | n + 1 => if (isq n + 1) * (isq n + 1) ≤ n + 1 then isq n + 1 else isq n
theorem isq_le (n : Nat) : isq n * isq n ≤ n := by
  induction n with
  | zero => simp [isq]
  | succ n ih => unfold isq; split <;> omega
theorem isq_lt (n : Nat) : n < (isq n + 1) * (isq n + 1) := by
  induction n with
  | zero => simp [isq]
  | succ n ih =>
    unfold isq; split
    · have : (isq n + 1) * (isq n + 1) < (isq n + 1 + 1) * (isq n + 1 + 1) := Nat.mul_lt_mul'' (by omega) (by omega)
      omega
    · omega
theorem sq_le {a b : Nat} (h : a ≤ b) : a * a ≤ b * b := Nat.mul_le_mul h h
theorem isq_eq {n s : Nat} (h : s * s ≤ n) (k : n < (s + 1) * (s + 1)) : isq n = s := by
  have h1 := isq_le n
  have h2 := isq_lt n
  apply Nat.le_antisymm
  · apply Nat.le_of_not_lt; intro hl
    have := sq_le (show s + 1 ≤ isq n from hl); omega
  · apply Nat.le_of_not_lt; intro hl
    have := sq_le (show isq n + 1 ≤ s from hl); omega
theorem isq_self_le (n : Nat) : isq n ≤ n := by
  have h1 := isq_le n
  have h2 : isq n ≤ isq n * isq n := by
    rcases Nat.eq_zero_or_pos (isq n) with h | h
    · rw [h]; exact Nat.zero_le _
    · exact Nat.le_mul_of_pos_left _ h
  omega
theorem isq_sq (n : Nat) : isq (n * n) = n := isq_eq (Nat.le_refl _) (Nat.mul_lt_mul'' (by omega) (by omega))
theorem isq_sq_one {n : Nat} (h : 0 < n) : isq (n * n + 1) = n := by
  refine isq_eq (by omega) ?_
  rw [Nat.add_mul, Nat.mul_add]; omega
/-- Is a natural a square? -/
theorem sq_iff {n m : Nat} (h : n * n = m) : isq m = n := by rw [← h]; exact isq_sq n

/-- Bit by bit: X is not above the root, and less than 2^k below what is beyond it. -/
structure SqInv (V X k : Nat) : Prop where
  le : X * X ≤ V
  lt : V < (X + 2 ^ k) * (X + 2 ^ k)
theorem SqInv.yes {V X k : Nat} (h : SqInv V X (k + 1)) (hy : (X + 2 ^ k) * (X + 2 ^ k) ≤ V) : SqInv V (X + 2 ^ k) k := by
  refine ⟨hy, ?_⟩
  have := h.lt
  rw [Nat.pow_succ, Nat.mul_two, ← Nat.add_assoc] at this
  exact this
theorem SqInv.no {V X k : Nat} (h : SqInv V X (k + 1)) (hy : V < (X + 2 ^ k) * (X + 2 ^ k)) : SqInv V X k := ⟨h.le, hy⟩
theorem SqInv.done {V X : Nat} (h : SqInv V X 0) : isq V = X := isq_eq h.le (by have := h.lt; rwa [Nat.pow_zero] at this)
theorem SqInv.start {V b : Nat} (h : V < 2 ^ b) : SqInv V 0 ((b + 1) / 2 + 1) := by
  refine ⟨Nat.zero_le _, Nat.lt_of_lt_of_le h ?_⟩
  rw [Nat.zero_add, ← Nat.pow_add]
  exact Nat.pow_le_pow_right (by omega) (by omega)
theorem SqInv.bound {V X k : Nat} (h : SqInv V X k) : X ≤ V := by
  have h1 := h.le
  rcases Nat.eq_zero_or_pos X with h | h
  · rw [h]; exact Nat.zero_le _
  · exact Nat.le_trans (Nat.le_mul_of_pos_left _ h) h1

/- Newton's step. -/
theorem sq_apart (e d : Nat) : (e + d + d) * e ≤ (e + d) * (e + d) := by
  have h1 : (e + d) * (e + d) = (e + d + d) * e + d * d := by
    simp only [Nat.add_mul, Nat.mul_add, Nat.mul_comm d e]; omega
  omega
theorem newton_ge {n x : Nat} (hx : 0 < x) : isq n ≤ (x + n / x) / 2 := by
  have h1 := isq_le n
  have h2 : 2 * isq n ≤ x + n / x := by
    by_cases h : 2 * isq n ≤ x
    · exact Nat.le_trans h (Nat.le_add_right _ _)
    · have h3 : 2 * isq n - x ≤ n / x := by
        rw [Nat.le_div_iff_mul_le hx]
        refine Nat.le_trans ?_ h1
        rcases Nat.le_total x (isq n) with hl | hl
        · have := sq_apart x (isq n - x)
          rw [show x + (isq n - x) = isq n from by omega, show isq n + (isq n - x) = 2 * isq n - x from by omega] at this
          exact this
        · have := sq_apart (2 * isq n - x) (x - isq n)
          rw [show 2 * isq n - x + (x - isq n) = isq n from by omega, show isq n + (x - isq n) = x from by omega, Nat.mul_comm] at this
          exact this
      omega
  omega
theorem newton_lt {n x : Nat} (h : isq n < x) : (x + n / x) / 2 < x := by
  have h1 := isq_lt n
  have h2 := sq_le (show isq n + 1 ≤ x from h)
  have h3 : n / x < x := (Nat.div_lt_iff_lt_mul (by omega)).2 (by omega)
  omega
theorem newton_stop {n x : Nat} (h : isq n ≤ x) (hy : x ≤ (x + n / x) / 2) : isq n = x := by
  apply Nat.le_antisymm h
  apply Nat.le_of_not_lt; intro hl
  have := newton_lt hl; omega
theorem isq_le_of {n x : Nat} (h : n < (x + 1) * (x + 1)) : isq n ≤ x := by
  apply Nat.le_of_not_lt; intro hl
  have h1 := isq_le n
  have := sq_le (show x + 1 ≤ isq n from hl); omega
theorem isq_pos {n : Nat} (h : n ≠ 0) : 0 < isq n := by
  apply Nat.pos_of_ne_zero; intro h0
  have := isq_lt n
  rw [h0] at this; omega
theorem isq_le_pow {n b : Nat} (h : n < 2 ^ b) : isq n < 2 ^ ((b + 1) / 2) := by
  apply Nat.lt_of_not_le; intro hl
  have h1 := sq_le hl
  have h2 := isq_le n
  rw [← Nat.pow_add] at h1
  have h3 : 2 ^ b ≤ 2 ^ ((b + 1) / 2 + (b + 1) / 2) := Nat.pow_le_pow_right (by omega) (by omega)
  omega
end Go.Proofs.Ythcclkjccaoniaa.M
