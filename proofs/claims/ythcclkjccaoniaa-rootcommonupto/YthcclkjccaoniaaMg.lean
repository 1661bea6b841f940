/- The first 64 bits of a natural. -/
import Derived.Test.YthcclkjccaoniaaMf
namespace Go.Proofs.Ythcclkjccaoniaa.M

/-- The bits of xs from place n + 2 down, 64 of them, but for the first d. -/
def hd (xs : List Nat) (n d : Nat) : Nat := (xs.getD (n + 2) 0 * 4294967296 + xs.getD (n + 1) 0) * 2 ^ d + xs.getD n 0 / 2 ^ (32 - d)

theorem pow_join {d : Nat} (h : d ≤ 32) : 2 ^ d * 2 ^ (32 - d) = 4294967296 := by
  rw [← Nat.pow_add, show d + (32 - d) = 32 from by omega]

theorem hd_split {xs : List Nat} {n d : Nat} (hl : Lim xs) (hlen : xs.length ≤ n + 3) (hd32 : d ≤ 32) :
    ∃ x, val xs = Bp n * 2 ^ (32 - d) * hd xs n d + x ∧ x < Bp n * 2 ^ (32 - d) := by
  have e0 := val_take_succ' xs n
  have e1 := val_take_succ' xs (n + 1)
  have e2 := val_take_succ' xs (n + 2)
  rw [List.take_of_length_le (show xs.length ≤ n + 2 + 1 from hlen)] at e2
  have hlow : val (xs.take n) < Bp n := by
    by_cases h : n ≤ xs.length
    · have := val_lt (hl.take n)
      rwa [List.length_take, Nat.min_eq_left h] at this
    · rw [List.take_of_length_le (by omega)]
      exact Nat.lt_of_lt_of_le (val_lt hl) (Bp_mono (by omega))
  rw [Bp_succ] at e1
  rw [Bp_succ, Bp_succ] at e2
  have hj := pow_join hd32
  have hq := Nat.div_add_mod (xs.getD n 0) (2 ^ (32 - d))
  have hm := Nat.mod_lt (xs.getD n 0) (Nat.two_pow_pos (32 - d))
  unfold hd
  generalize xs.getD n 0 = z0 at *
  generalize xs.getD (n + 1) 0 = z1 at *
  generalize xs.getD (n + 2) 0 = z2 at *
  generalize z0 / 2 ^ (32 - d) = q at *
  generalize z0 % 2 ^ (32 - d) = r at *
  generalize val (xs.take n) = low at *
  generalize 2 ^ d = p at *
  generalize 2 ^ (32 - d) = e at *
  generalize Bp n = b at *
  refine ⟨b * r + low, by grind, ?_⟩
  have h1 : b * (r + 1) ≤ b * e := Nat.mul_le_mul_left b hm
  rw [Nat.mul_add, Nat.mul_one] at h1
  omega

theorem hd_lt {xs : List Nat} {n d : Nat} (hl : Lim xs) (hd32 : d ≤ 32) (ht : xs.getD (n + 2) 0 < 2 ^ (32 - d)) :
    (xs.getD (n + 2) 0 * 4294967296 + xs.getD (n + 1) 0) * 2 ^ d + 2 ^ d ≤ 18446744073709551616 ∧ xs.getD n 0 / 2 ^ (32 - d) < 2 ^ d := by
  have h1 := hl.getD (n + 1)
  have h0 := hl.getD n
  have hj := pow_join hd32
  constructor
  · have h2 : (xs.getD (n + 2) 0 * 4294967296 + xs.getD (n + 1) 0 + 1) ≤ 2 ^ (32 - d) * 4294967296 := by omega
    have h3 := Nat.mul_le_mul_right (2 ^ d) h2
    rw [Nat.add_mul, Nat.one_mul, Nat.mul_right_comm, Nat.mul_comm (2 ^ (32 - d)), hj] at h3
    omega
  · rw [Nat.div_lt_iff_lt_mul (Nat.two_pow_pos _), hj]; exact h0

/-- Heads are ordered as the naturals are. -/
theorem head_le {P A B a b x y : Nat} (hA : A = P * a + x) (hx : x < P) (hB : B = P * b + y) (hle : B ≤ A) : b ≤ a := by
  apply Nat.le_of_not_lt; intro hl
  have := Nat.mul_le_mul_left P (show a + 1 ≤ b from hl)
  rw [Nat.mul_add, Nat.mul_one] at this
  omega
/-- The top limb of the lesser one is not above that of the greater one. -/
theorem top_le {xs ys : List Nat} {n : Nat} (hx : Lim xs) (hxl : xs.length ≤ n + 1) (hyl : ys.length ≤ n + 1) (hle : val ys ≤ val xs) : ys.getD n 0 ≤ xs.getD n 0 := by
  have e1 := val_take_succ' xs n
  have e2 := val_take_succ' ys n
  rw [List.take_of_length_le hxl] at e1
  rw [List.take_of_length_le hyl] at e2
  have h1 : val (xs.take n) < Bp n := by
    by_cases h : n ≤ xs.length
    · have := val_lt (hx.take n)
      rwa [List.length_take, Nat.min_eq_left h] at this
    · rw [List.take_of_length_le (by omega)]
      exact Nat.lt_of_lt_of_le (val_lt hx) (Bp_mono (by omega))
  apply Nat.le_of_not_lt; intro hl
  have := Nat.mul_le_mul_left (Bp n) (show xs.getD n 0 + 1 ≤ ys.getD n 0 from hl)
  rw [Nat.mul_add, Nat.mul_one] at this
  omega
end Go.Proofs.Ythcclkjccaoniaa.M
