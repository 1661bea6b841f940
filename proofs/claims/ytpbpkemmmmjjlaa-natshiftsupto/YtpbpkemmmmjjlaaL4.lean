/- penumbralaw01.NatShifts: true, whatever the natural is (of at most K limbs), and both numbers. -/
import Derived.Test.YtpbpkemmmmjjlaaL0
namespace Go.Proofs.Ytpbpkemmmmjjlaa
open Go.RowKit M

theorem nb_le {n k : Nat} (h : n < 2 ^ k) : nb n ≤ k := by
  by_cases h0 : n = 0
  · subst h0; rw [nb_zero]; omega
  · have h1 := nb_ge h0
    have h2 := nb_pos h0
    have : 2 ^ (nb n - 1) < 2 ^ k := by omega
    have := (Nat.pow_lt_pow_iff_right (a := 2) (by decide)).1 this
    omega

set_option maxHeartbeats 1000000 in
theorem shifts_out0 (w : World) (ao : Option Addr) (an ac : Nat) (n k : Int) (g1 : decide (n < 0) = true) :
    Calls Try.prog 9 #[.slice ao an ac, .int .i64 n, .int .i64 k] w fun e w' => e = .returned (.bool true) ∧ Below w.heap.size w w' := by
  go_enter Try.func9, Try.ntmps9
  have B0 : Below w.heap.size w w := Below.refl _ _
  go_wp2_with fail
  refine (fixed_any _).mono ?_
  rintro e w1 ⟨rfl, lb⟩
  have B1 := B0.trans (lb.mono B0.size)
  clear lb B0
  go_wp2_with fail
  refine (fixed_any _).mono ?_
  rintro e w2 ⟨rfl, lb⟩
  have B2 := B1.trans (lb.mono B1.size)
  clear lb B1
  go_wp2
  go_ret
  exact ⟨rfl, B2⟩

set_option maxHeartbeats 1000000 in
theorem shifts_out1 (w : World) (ao : Option Addr) (an ac : Nat) (n k : Int) (g1 : decide (n < 0) = false) (g2 : decide (200 < n) = true) :
    Calls Try.prog 9 #[.slice ao an ac, .int .i64 n, .int .i64 k] w fun e w' => e = .returned (.bool true) ∧ Below w.heap.size w w' := by
  go_enter Try.func9, Try.ntmps9
  have B0 : Below w.heap.size w w := Below.refl _ _
  go_wp2_with fail
  refine (fixed_any _).mono ?_
  rintro e w1 ⟨rfl, lb⟩
  have B1 := B0.trans (lb.mono B0.size)
  clear lb B0
  go_wp2_with fail
  refine (fixed_any _).mono ?_
  rintro e w2 ⟨rfl, lb⟩
  have B2 := B1.trans (lb.mono B1.size)
  clear lb B1
  go_wp2
  go_ret
  exact ⟨rfl, B2⟩

set_option maxHeartbeats 1000000 in
theorem shifts_out2 (w : World) (ao : Option Addr) (an ac : Nat) (n k : Int) (g1 : decide (n < 0) = false) (g2 : decide (200 < n) = false) (g3 : decide (k < 0) = true) :
    Calls Try.prog 9 #[.slice ao an ac, .int .i64 n, .int .i64 k] w fun e w' => e = .returned (.bool true) ∧ Below w.heap.size w w' := by
  go_enter Try.func9, Try.ntmps9
  have B0 : Below w.heap.size w w := Below.refl _ _
  go_wp2_with fail
  refine (fixed_any _).mono ?_
  rintro e w1 ⟨rfl, lb⟩
  have B1 := B0.trans (lb.mono B0.size)
  clear lb B0
  go_wp2_with fail
  refine (fixed_any _).mono ?_
  rintro e w2 ⟨rfl, lb⟩
  have B2 := B1.trans (lb.mono B1.size)
  clear lb B1
  go_wp2
  go_ret
  exact ⟨rfl, B2⟩

set_option maxHeartbeats 1000000 in
theorem shifts_out3 (w : World) (ao : Option Addr) (an ac : Nat) (n k : Int) (g1 : decide (n < 0) = false) (g2 : decide (200 < n) = false) (g3 : decide (k < 0) = false) (g4 : decide (200 < k) = true) :
    Calls Try.prog 9 #[.slice ao an ac, .int .i64 n, .int .i64 k] w fun e w' => e = .returned (.bool true) ∧ Below w.heap.size w w' := by
  go_enter Try.func9, Try.ntmps9
  have B0 : Below w.heap.size w w := Below.refl _ _
  go_wp2_with fail
  refine (fixed_any _).mono ?_
  rintro e w1 ⟨rfl, lb⟩
  have B1 := B0.trans (lb.mono B0.size)
  clear lb B0
  go_wp2_with fail
  refine (fixed_any _).mono ?_
  rintro e w2 ⟨rfl, lb⟩
  have B2 := B1.trans (lb.mono B1.size)
  clear lb B1
  go_wp2
  go_ret
  exact ⟨rfl, B2⟩

set_option maxHeartbeats 4000000 in
theorem shifts_zero (w : World) (ao : Option Addr) (an ac K : Nat) (xs : List Nat) (sa : Sl w.heap.size w ao an ac xs) (la : an ≤ K) (hK : K ≤ 1048576) (n k : Nat) (hn : n ≤ 200) (hk : k ≤ 200) (HZ : Hid (val xs = 0)) :
    Calls Try.prog 9 #[.slice ao an ac, .int .i64 (n : Int), .int .i64 (k : Int)] w fun e w' => e = .returned (.bool true) ∧ Below w.heap.size w w' := by
  have g1 : decide ((n : Int) < 0) = false := by simp
  have g2 : decide ((200 : Int) < (n : Int)) = false := by simp; omega
  have g3 : decide ((k : Int) < 0) = false := by simp
  have g4 : decide ((200 : Int) < (k : Int)) = false := by simp; omega
  go_enter Try.func9, Try.ntmps9
  have B0 : Below w.heap.size w w := Below.refl _ _
  go_wp2_with fail
  refine (fixed_any _).mono ?_
  rintro e w1 ⟨rfl, lb⟩
  have B1 := B0.trans (lb.mono B0.size)
  replace sa := sa.later lb
  clear lb B0
  go_wp2_with fail
  clear g1 g2 g3 g4
  refine (shl_k sa n (K) (by omega) (by omega) (by omega)).mono ?_
  rintro e w2 ⟨so, sn, sc, rfl, ss, ls, lb⟩
  try simp only [val_toL] at ss
  have B2 := B1.trans (lb.mono B1.size)
  replace sa := sa.later lb
  clear lb B1
  go_wp2_with fail
  refine (shl_k ss k (K + 2049) (by omega) (by omega) (by omega)).mono ?_
  rintro e w3 ⟨to, tn, tc, rfl, st, lt, lb⟩
  try simp only [val_toL] at st
  have B3 := B2.trans (lb.mono B2.size)
  replace sa := sa.later lb
  replace ss := ss.later lb
  clear lb B2
  go_wp2_with fail
  rw [show (n : Int) + (k : Int) = ((n + k : Nat) : Int) from by omega]
  refine (shl_k sa (n + k) (K) (by omega) (by omega) (by omega)).mono ?_
  rintro e w4 ⟨uo, un, uc, rfl, su, lu, lb⟩
  try simp only [val_toL] at su
  have B4 := B3.trans (lb.mono B3.size)
  replace sa := sa.later lb
  replace ss := ss.later lb
  replace st := st.later lb
  clear lb B3
  go_wp2_with fail
  obtain ⟨s1, lb⟩ := lit1 w4 1 [1] #[.int .u32 1] rfl (lim1 (by omega)) rfl
  obtain ⟨w5, hw1⟩ : ∃ w1, w1 = w4.alloc (.cells #[.int .u32 1] 38) := ⟨_, rfl⟩
  rw [← hw1] at s1 lb ⊢
  clear hw1
  have B5 := B4.trans (lb.mono B4.size)
  replace sa := sa.later lb
  replace ss := ss.later lb
  replace st := st.later lb
  replace su := su.later lb
  clear lb B4
  refine (shl_k s1 n (1) (by omega) (by omega) (by omega)).mono ?_
  rintro e w6 ⟨oo, on, oc, rfl, so, lo, lb⟩
  try simp only [val_toL] at so
  have B6 := B5.trans (lb.mono B5.size)
  replace sa := sa.later lb
  replace ss := ss.later lb
  replace st := st.later lb
  replace su := su.later lb
  clear lb B5 s1
  go_wp2_with fail
  refine (same_k st su (by rw [Nat.pow_add, Nat.mul_assoc]) (by omega)).mono ?_
  rintro e w7 ⟨rfl, lb⟩
  have B7 := B6.trans (lb.mono B6.size)
  replace sa := sa.later lb
  replace ss := ss.later lb
  replace so := so.later lb
  clear lb B6 st su
  go_wp2_with fail
  refine (mul_k sa so (K) (1 + 2049) (by omega) (by omega) (by omega) (by omega)).mono ?_
  rintro e w8 ⟨mo, mn, mc, rfl, sm, lm, lb⟩
  simp only [val_toL] at sm
  have B8 := B7.trans (lb.mono B7.size)
  replace sa := sa.later lb
  replace ss := ss.later lb
  clear lb B7 so
  go_wp2_with fail
  refine (same_k ss sm (by simp [val]) (by omega)).mono ?_
  rintro e w9 ⟨rfl, lb⟩
  have B9 := B8.trans (lb.mono B8.size)
  replace sa := sa.later lb
  replace ss := ss.later lb
  clear lb B8 sm
  go_wp2_with fail
  refine (norm_k sa K (by omega) (by omega)).mono ?_
  rintro e w10 ⟨zo, zn, zc, rfl, sz, lz, lb⟩
  try simp only [val_toL] at sz
  have B10 := B9.trans (lb.mono B9.size)
  replace sa := sa.later lb
  replace ss := ss.later lb
  clear lb B9
  have z1 : zn = 0 := by have := sz.len; rw [HZ.out, toL_zero] at this; exact this.symm
  have z2 : sn = 0 := by have := ss.len; rw [HZ.out, Nat.zero_mul, toL_zero] at this; exact this.symm
  have z3 : ((zn : Int) == 0) = true := by simp [z1]
  have z4 : ((sn : Int) == 0) = true := by simp [z2]
  clear z1 z2 lz ls
  go_wp2
  go_ret
  exact ⟨rfl, B10⟩

set_option maxHeartbeats 4000000 in
theorem shifts_pos (w : World) (ao : Option Addr) (an ac K : Nat) (xs : List Nat) (sa : Sl w.heap.size w ao an ac xs) (la : an ≤ K) (hK : K ≤ 1048576) (n k : Nat) (hn : n ≤ 200) (hk : k ≤ 200) (HZ : Hid (val xs ≠ 0)) (HB : Hid (nb (val xs * 2 ^ n) = nb (val xs) + n)) (HL : Hid (nb (val xs) ≤ 33554432)) :
    Calls Try.prog 9 #[.slice ao an ac, .int .i64 (n : Int), .int .i64 (k : Int)] w fun e w' => e = .returned (.bool true) ∧ Below w.heap.size w w' := by
  have g1 : decide ((n : Int) < 0) = false := by simp
  have g2 : decide ((200 : Int) < (n : Int)) = false := by simp; omega
  have g3 : decide ((k : Int) < 0) = false := by simp
  have g4 : decide ((200 : Int) < (k : Int)) = false := by simp; omega
  go_enter Try.func9, Try.ntmps9
  have B0 : Below w.heap.size w w := Below.refl _ _
  go_wp2_with fail
  refine (fixed_any _).mono ?_
  rintro e w1 ⟨rfl, lb⟩
  have B1 := B0.trans (lb.mono B0.size)
  replace sa := sa.later lb
  clear lb B0
  go_wp2_with fail
  clear g1 g2 g3 g4
  refine (shl_k sa n (K) (by omega) (by omega) (by omega)).mono ?_
  rintro e w2 ⟨so, sn, sc, rfl, ss, ls, lb⟩
  try simp only [val_toL] at ss
  have B2 := B1.trans (lb.mono B1.size)
  replace sa := sa.later lb
  clear lb B1
  go_wp2_with fail
  refine (shl_k ss k (K + 2049) (by omega) (by omega) (by omega)).mono ?_
  rintro e w3 ⟨to, tn, tc, rfl, st, lt, lb⟩
  try simp only [val_toL] at st
  have B3 := B2.trans (lb.mono B2.size)
  replace sa := sa.later lb
  replace ss := ss.later lb
  clear lb B2
  go_wp2_with fail
  rw [show (n : Int) + (k : Int) = ((n + k : Nat) : Int) from by omega]
  refine (shl_k sa (n + k) (K) (by omega) (by omega) (by omega)).mono ?_
  rintro e w4 ⟨uo, un, uc, rfl, su, lu, lb⟩
  try simp only [val_toL] at su
  have B4 := B3.trans (lb.mono B3.size)
  replace sa := sa.later lb
  replace ss := ss.later lb
  replace st := st.later lb
  clear lb B3
  go_wp2_with fail
  obtain ⟨s1, lb⟩ := lit1 w4 1 [1] #[.int .u32 1] rfl (lim1 (by omega)) rfl
  obtain ⟨w5, hw1⟩ : ∃ w1, w1 = w4.alloc (.cells #[.int .u32 1] 38) := ⟨_, rfl⟩
  rw [← hw1] at s1 lb ⊢
  clear hw1
  have B5 := B4.trans (lb.mono B4.size)
  replace sa := sa.later lb
  replace ss := ss.later lb
  replace st := st.later lb
  replace su := su.later lb
  clear lb B4
  refine (shl_k s1 n (1) (by omega) (by omega) (by omega)).mono ?_
  rintro e w6 ⟨oo, on, oc, rfl, so, lo, lb⟩
  try simp only [val_toL] at so
  have B6 := B5.trans (lb.mono B5.size)
  replace sa := sa.later lb
  replace ss := ss.later lb
  replace st := st.later lb
  replace su := su.later lb
  clear lb B5 s1
  go_wp2_with fail
  refine (same_k st su (by rw [Nat.pow_add, Nat.mul_assoc]) (by omega)).mono ?_
  rintro e w7 ⟨rfl, lb⟩
  have B7 := B6.trans (lb.mono B6.size)
  replace sa := sa.later lb
  replace ss := ss.later lb
  replace so := so.later lb
  clear lb B6 st su
  go_wp2_with fail
  refine (mul_k sa so (K) (1 + 2049) (by omega) (by omega) (by omega) (by omega)).mono ?_
  rintro e w8 ⟨mo, mn, mc, rfl, sm, lm, lb⟩
  simp only [val_toL] at sm
  have B8 := B7.trans (lb.mono B7.size)
  replace sa := sa.later lb
  replace ss := ss.later lb
  clear lb B7 so
  go_wp2_with fail
  refine (same_k ss sm (by simp [val]) (by omega)).mono ?_
  rintro e w9 ⟨rfl, lb⟩
  have B9 := B8.trans (lb.mono B8.size)
  replace sa := sa.later lb
  replace ss := ss.later lb
  clear lb B8 sm
  go_wp2_with fail
  refine (norm_k sa K (by omega) (by omega)).mono ?_
  rintro e w10 ⟨zo, zn, zc, rfl, sz, lz, lb⟩
  try simp only [val_toL] at sz
  have B10 := B9.trans (lb.mono B9.size)
  replace sa := sa.later lb
  replace ss := ss.later lb
  clear lb B9
  have z1 : zn ≠ 0 := by rw [← sz.len]; have := toL_length_pos HZ.out; omega
  have z3 : ((zn : Int) == 0) = false := by simp [z1]
  clear z1 lz
  go_wp2_with fail
  refine (bits_k ss (by omega)).mono ?_
  rintro e w11 ⟨rfl, lb⟩
  have B11 := B10.trans (lb.mono B10.size)
  replace sa := sa.later lb
  replace ss := ss.later lb
  replace sz := sz.later lb
  clear lb B10
  go_wp2_with fail
  refine (bits_k sa (by omega)).mono ?_
  rintro e w12 ⟨rfl, lb⟩
  have B12 := B11.trans (lb.mono B11.size)
  replace sa := sa.later lb
  replace ss := ss.later lb
  replace sz := sz.later lb
  clear lb B11
  rw [val_toL, HB.out]
  have hb2 := HL.out
  generalize nb (val xs) = b at hb2 ⊢
  go_wp2
  go_ret
  exact ⟨rfl, B12⟩

theorem shifts_any (w : World) (ao : Option Addr) (an ac K : Nat) (xs : List Nat) (sa : Sl w.heap.size w ao an ac xs) (la : an ≤ K) (hK : K ≤ 1048576) (n k : Int) :
    Calls Try.prog 9 #[.slice ao an ac, .int .i64 n, .int .i64 k] w fun e w' => e = .returned (.bool true) ∧ Below w.heap.size w w' := by
  by_cases h1 : n < 0
  · exact shifts_out0 w ao an ac n k (by simpa using h1)
  by_cases h2 : 200 < n
  · exact shifts_out1 w ao an ac n k (by simpa using h1) (by simpa using h2)
  by_cases h3 : k < 0
  · exact shifts_out2 w ao an ac n k (by simpa using h1) (by simpa using h2) (by simpa using h3)
  by_cases h4 : 200 < k
  · exact shifts_out3 w ao an ac n k (by simpa using h1) (by simpa using h2) (by simpa using h3) (by simpa using h4)
  obtain ⟨n, rfl⟩ := Int.eq_ofNat_of_zero_le (show 0 ≤ n from by omega)
  obtain ⟨k, rfl⟩ := Int.eq_ofNat_of_zero_le (show 0 ≤ k from by omega)
  by_cases h0 : val xs = 0
  · exact shifts_zero w ao an ac K xs sa la hK n k (by omega) (by omega) h0
  · refine shifts_pos w ao an ac K xs sa la hK n k (by omega) (by omega) h0 (nb_shift h0 n) ?_
    have h5 := sa.bd la
    rw [Bp_two] at h5
    have h6 := nb_le h5
    show nb (val xs) ≤ 33554432
    omega

end Go.Proofs.Ytpbpkemmmmjjlaa
