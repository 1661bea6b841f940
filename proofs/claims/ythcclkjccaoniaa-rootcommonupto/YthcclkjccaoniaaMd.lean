/- Plain facts: the document's own division. No Go text. -/
import Derived.Test.YthcclkjccaoniaaMc
namespace Go.Proofs.Ythcclkjccaoniaa.M

theorem toL_len_eq {v n : Nat} (h1 : Bp n ≤ v) (h2 : v < Bp (n + 1)) : (toL v).length = n + 1 := by
  have a := toL_len_le h2
  have b := val_lt (Lim_toL v)
  rw [val_toL] at b
  apply Nat.le_antisymm a
  apply Nat.le_of_not_lt; intro hlt
  have := Bp_mono (show (toL v).length ≤ n from by omega)
  omega
theorem top_ge {L m : Nat} (h : (toL L).length = m + 1) : (toL L).getD m 0 * Bp m ≤ L := by
  have e := val_take_succ (xs := toL L) (k := m) (by omega)
  rw [List.take_of_length_le (by omega), val_toL, Nat.mul_comm] at e
  omega
theorem top_ge2 {L m : Nat} (h : (toL L).length = m + 2) : ((toL L).getD (m + 1) 0 * 4294967296 + (toL L).getD m 0) * Bp m ≤ L := by
  have e := val_take_succ (xs := toL L) (k := m + 1) (by omega)
  have e2 := val_take_succ (xs := toL L) (k := m) (by omega)
  rw [List.take_of_length_le (by omega), val_toL, Bp_succ] at e
  generalize (toL L).getD (m + 1) 0 = T at *
  generalize (toL L).getD m 0 = S at *
  rw [Nat.mul_assoc] at e
  rw [Nat.add_mul, Nat.mul_comm S, Nat.mul_assoc T, Nat.mul_left_comm T, Nat.mul_comm T]
  omega
theorem top_lt {b n : Nat} (h : (toL b).length = n + 1) : b < ((toL b).getD n 0 + 1) * Bp n := by
  have e := val_take_succ (xs := toL b) (k := n) (by omega)
  rw [List.take_of_length_le (by omega), val_toL] at e
  have hl := val_lt ((Lim_toL b).take n)
  rw [List.length_take, Nat.min_eq_left (by omega)] at hl
  rw [Nat.add_mul, Nat.one_mul, Nat.mul_comm _ (Bp n)]
  omega
/-- So many times the divisor, at that place, is not too great. -/
theorem some_le {t top x p n e L b : Nat} (h1 : t * top ≤ x) (h2 : x * Bp e ≤ L) (h3 : b < top * Bp n) (h4 : n + p = e) : Bp p * t * b ≤ L := by
  subst h4
  have a := Nat.mul_le_mul_left (Bp p * t) (Nat.le_of_lt h3)
  have c := Nat.mul_le_mul_right (Bp (n + p)) h1
  have e : Bp p * t * (top * Bp n) = t * top * Bp (n + p) := by
    rw [Bp_add, Nat.mul_comm (Bp p) t, Nat.mul_assoc t (Bp p), Nat.mul_assoc t top]
    congr 1
    rw [Nat.mul_left_comm (Bp p) top, Nat.mul_comm (Bp p)]
  omega

end Go.Proofs.Ythcclkjccaoniaa.M
