/- penumbralaw01.NatOrders: true, whatever the three naturals are (of at most K limbs). -/
import Derived.Test.YtpbpkemmmmjjlaaL0
namespace Go.Proofs.Ytpbpkemmmmjjlaa
open Go.RowKit M

theorem cmpN_add (a b c : Nat) : cmpN (a + c) (b + c) = cmpN a b := by
  rcases Nat.lt_trichotomy a b with h | h | h
  · rw [cmpN_lt h, cmpN_lt (by omega)]
  · rw [cmpN_eq h, cmpN_eq (by omega)]
  · rw [cmpN_gt h, cmpN_gt (by omega)]
theorem cmpN_mul (a b c : Nat) : cmpN (a * (c + 1)) (b * (c + 1)) = cmpN a b := by
  rcases Nat.lt_trichotomy a b with h | h | h
  · rw [cmpN_lt h, cmpN_lt ((Nat.mul_lt_mul_right (by omega)).2 h)]
  · rw [cmpN_eq h, cmpN_eq (by rw [h])]
  · rw [cmpN_gt h, cmpN_gt ((Nat.mul_lt_mul_right (by omega)).2 h)]
theorem cmpN_neg (a b : Nat) : cmpN b a = - cmpN a b := by
  unfold cmpN; split <;> split <;> (try split) <;> (try split) <;> omega

set_option maxHeartbeats 4000000 in
theorem orders_0 (Y Z : Int) (w : World) (ao bo co : Option Addr) (an ac bn bc cn cc K : Nat) (xs ys zs : List Nat) (sa : Sl w.heap.size w ao an ac xs) (sb : Sl w.heap.size w bo bn bc ys) (sc : Sl w.heap.size w co cn cc zs)
    (la : an ≤ K) (lb0 : bn ≤ K) (lc : cn ≤ K) (hK : K ≤ 1048576) (HX : Hid (cmpN (val xs) (val ys) = -1)) (HY : Hid (cmpN (val ys) (val zs) = Y)) (HZ : Hid (cmpN (val xs) (val zs) = Z)) (HN : Hid (cmpN (val ys) (val xs) = 1)) (gy : decide (Y ≤ 0) = true) (gz : decide (0 < Z) = false) (gz2 : decide (0 ≤ Z) = false) (HB : Hid (nb (val xs) ≤ nb (val ys))) :
    Calls Try.prog 8 #[.slice ao an ac, .slice bo bn bc, .slice co cn cc] w fun e w' => e = .returned (.bool true) ∧ Below w.heap.size w w' := by
  go_enter Try.func8, Try.ntmps8
  have B0 : Below w.heap.size w w := Below.refl _ _
  go_wp2_with fail
  refine (cmp_k sa sb (by omega) (by omega)).mono ?_
  rintro e w1 ⟨rfl, lb⟩
  have B1 := B0.trans (lb.mono B0.size)
  replace sa := sa.later lb
  replace sb := sb.later lb
  replace sc := sc.later lb
  clear lb B0
  skip
  rw [HX.out]
  go_wp2_with fail
  refine (cmp_k sb sc (by omega) (by omega)).mono ?_
  rintro e w2 ⟨rfl, lb⟩
  have B2 := B1.trans (lb.mono B1.size)
  replace sa := sa.later lb
  replace sb := sb.later lb
  replace sc := sc.later lb
  clear lb B1
  skip
  rw [HY.out]
  go_wp2_with fail
  refine (cmp_k sa sc (by omega) (by omega)).mono ?_
  rintro e w3 ⟨rfl, lb⟩
  have B3 := B2.trans (lb.mono B2.size)
  replace sa := sa.later lb
  replace sb := sb.later lb
  replace sc := sc.later lb
  clear lb B2
  skip
  rw [HZ.out]
  go_wp2_with fail
  refine (fixed_any _).mono ?_
  rintro e w4 ⟨rfl, lb⟩
  have B4 := B3.trans (lb.mono B3.size)
  replace sa := sa.later lb
  replace sb := sb.later lb
  replace sc := sc.later lb
  clear lb B3
  go_wp2_with fail
  refine (cmp_k sb sa (by omega) (by omega)).mono ?_
  rintro e w5 ⟨rfl, lb⟩
  have B5 := B4.trans (lb.mono B4.size)
  replace sa := sa.later lb
  replace sb := sb.later lb
  replace sc := sc.later lb
  clear lb B4
  skip
  rw [HN.out]
  go_wp2_with fail
  refine (bits_k sa (by omega)).mono ?_
  rintro e w6 ⟨rfl, lb⟩
  have B6 := B5.trans (lb.mono B5.size)
  replace sa := sa.later lb
  replace sb := sb.later lb
  replace sc := sc.later lb
  clear lb B5
  go_wp2_with fail
  refine (bits_k sb (by omega)).mono ?_
  rintro e w7 ⟨rfl, lb⟩
  have B7 := B6.trans (lb.mono B6.size)
  replace sa := sa.later lb
  replace sb := sb.later lb
  replace sc := sc.later lb
  clear lb B6
  have hbd := HB.out
  generalize nb (val xs) = na at hbd ⊢
  generalize nb (val ys) = nbb at hbd ⊢
  go_wp2_with fail
  obtain ⟨s1, lb⟩ := lit1 w7 1 [1] #[.int .u32 1] rfl (lim1 (by omega)) rfl
  obtain ⟨w8, hw1⟩ : ∃ w1, w1 = w7.alloc (.cells #[.int .u32 1] 38) := ⟨_, rfl⟩
  rw [← hw1] at s1 lb ⊢
  clear hw1
  have B8 := B7.trans (lb.mono B7.size)
  replace sa := sa.later lb
  replace sb := sb.later lb
  replace sc := sc.later lb
  clear lb B7
  refine (add_k sc s1 (K + 1) (by omega) (by omega) (by omega)).mono ?_
  rintro e w9 ⟨fo, fn, fc, rfl, sf, lf, lb⟩
  try simp only [val_toL] at sf
  have B9 := B8.trans (lb.mono B8.size)
  replace sa := sa.later lb
  replace sb := sb.later lb
  replace sc := sc.later lb
  clear lb B8 s1
  go_wp2_with fail
  refine (add_k sa sc (K) (by omega) (by omega) (by omega)).mono ?_
  rintro e w10 ⟨to, tn, tc, rfl, st, lt, lb⟩
  try simp only [val_toL] at st
  have B10 := B9.trans (lb.mono B9.size)
  replace sa := sa.later lb
  replace sb := sb.later lb
  replace sc := sc.later lb
  replace sf := sf.later lb
  clear lb B9
  go_wp2_with fail
  refine (add_k sb sc (K) (by omega) (by omega) (by omega)).mono ?_
  rintro e w11 ⟨uo, un, uc, rfl, su, lu, lb⟩
  try simp only [val_toL] at su
  have B11 := B10.trans (lb.mono B10.size)
  replace sa := sa.later lb
  replace sb := sb.later lb
  replace sc := sc.later lb
  replace sf := sf.later lb
  replace st := st.later lb
  clear lb B10
  go_wp2_with fail
  refine (cmp_k st su (by omega) (by omega)).mono ?_
  rintro e w12 ⟨rfl, lb⟩
  have B12 := B11.trans (lb.mono B11.size)
  replace sa := sa.later lb
  replace sb := sb.later lb
  replace sc := sc.later lb
  replace sf := sf.later lb
  clear lb B11 st su
  rw [val_toL, val_toL, cmpN_add, HX.out]
  go_wp2_with fail
  refine (mul_k sa sf (K) (K + 2) (by omega) (by omega) (by omega) (by omega)).mono ?_
  rintro e w13 ⟨to, tn, tc, rfl, st, lt, lb⟩
  try simp only [val_toL] at st
  have B13 := B12.trans (lb.mono B12.size)
  replace sa := sa.later lb
  replace sb := sb.later lb
  replace sc := sc.later lb
  replace sf := sf.later lb
  clear lb B12
  go_wp2_with fail
  refine (mul_k sb sf (K) (K + 2) (by omega) (by omega) (by omega) (by omega)).mono ?_
  rintro e w14 ⟨uo, un, uc, rfl, su, lu, lb⟩
  try simp only [val_toL] at su
  have B14 := B13.trans (lb.mono B13.size)
  replace sa := sa.later lb
  replace sb := sb.later lb
  replace sc := sc.later lb
  replace sf := sf.later lb
  replace st := st.later lb
  clear lb B13
  go_wp2_with fail
  refine (cmp_k st su (by omega) (by omega)).mono ?_
  rintro e w15 ⟨rfl, lb⟩
  have B15 := B14.trans (lb.mono B14.size)
  replace sa := sa.later lb
  replace sb := sb.later lb
  replace sc := sc.later lb
  replace sf := sf.later lb
  clear lb B14 st su
  rw [val_toL, val_toL, val_cons, val_nil, show val zs + (1 + 4294967296 * 0) = val zs + 1 from rfl, cmpN_mul, HX.out]
  go_wp2
  go_ret
  exact ⟨rfl, B15⟩

set_option maxHeartbeats 4000000 in
theorem orders_1 (Y Z : Int) (w : World) (ao bo co : Option Addr) (an ac bn bc cn cc K : Nat) (xs ys zs : List Nat) (sa : Sl w.heap.size w ao an ac xs) (sb : Sl w.heap.size w bo bn bc ys) (sc : Sl w.heap.size w co cn cc zs)
    (la : an ≤ K) (lb0 : bn ≤ K) (lc : cn ≤ K) (hK : K ≤ 1048576) (HX : Hid (cmpN (val xs) (val ys) = -1)) (HY : Hid (cmpN (val ys) (val zs) = Y)) (HZ : Hid (cmpN (val xs) (val zs) = Z)) (HN : Hid (cmpN (val ys) (val xs) = 1)) (gy : decide (Y ≤ 0) = false) (HB : Hid (nb (val xs) ≤ nb (val ys))) :
    Calls Try.prog 8 #[.slice ao an ac, .slice bo bn bc, .slice co cn cc] w fun e w' => e = .returned (.bool true) ∧ Below w.heap.size w w' := by
  go_enter Try.func8, Try.ntmps8
  have B0 : Below w.heap.size w w := Below.refl _ _
  go_wp2_with fail
  refine (cmp_k sa sb (by omega) (by omega)).mono ?_
  rintro e w1 ⟨rfl, lb⟩
  have B1 := B0.trans (lb.mono B0.size)
  replace sa := sa.later lb
  replace sb := sb.later lb
  replace sc := sc.later lb
  clear lb B0
  skip
  rw [HX.out]
  go_wp2_with fail
  refine (cmp_k sb sc (by omega) (by omega)).mono ?_
  rintro e w2 ⟨rfl, lb⟩
  have B2 := B1.trans (lb.mono B1.size)
  replace sa := sa.later lb
  replace sb := sb.later lb
  replace sc := sc.later lb
  clear lb B1
  skip
  rw [HY.out]
  go_wp2_with fail
  refine (cmp_k sa sc (by omega) (by omega)).mono ?_
  rintro e w3 ⟨rfl, lb⟩
  have B3 := B2.trans (lb.mono B2.size)
  replace sa := sa.later lb
  replace sb := sb.later lb
  replace sc := sc.later lb
  clear lb B2
  skip
  rw [HZ.out]
  go_wp2_with fail
  refine (fixed_any _).mono ?_
  rintro e w4 ⟨rfl, lb⟩
  have B4 := B3.trans (lb.mono B3.size)
  replace sa := sa.later lb
  replace sb := sb.later lb
  replace sc := sc.later lb
  clear lb B3
  go_wp2_with fail
  refine (cmp_k sb sa (by omega) (by omega)).mono ?_
  rintro e w5 ⟨rfl, lb⟩
  have B5 := B4.trans (lb.mono B4.size)
  replace sa := sa.later lb
  replace sb := sb.later lb
  replace sc := sc.later lb
  clear lb B4
  skip
  rw [HN.out]
  go_wp2_with fail
  refine (bits_k sa (by omega)).mono ?_
  rintro e w6 ⟨rfl, lb⟩
  have B6 := B5.trans (lb.mono B5.size)
  replace sa := sa.later lb
  replace sb := sb.later lb
  replace sc := sc.later lb
  clear lb B5
  go_wp2_with fail
  refine (bits_k sb (by omega)).mono ?_
  rintro e w7 ⟨rfl, lb⟩
  have B7 := B6.trans (lb.mono B6.size)
  replace sa := sa.later lb
  replace sb := sb.later lb
  replace sc := sc.later lb
  clear lb B6
  have hbd := HB.out
  generalize nb (val xs) = na at hbd ⊢
  generalize nb (val ys) = nbb at hbd ⊢
  go_wp2_with fail
  obtain ⟨s1, lb⟩ := lit1 w7 1 [1] #[.int .u32 1] rfl (lim1 (by omega)) rfl
  obtain ⟨w8, hw1⟩ : ∃ w1, w1 = w7.alloc (.cells #[.int .u32 1] 38) := ⟨_, rfl⟩
  rw [← hw1] at s1 lb ⊢
  clear hw1
  have B8 := B7.trans (lb.mono B7.size)
  replace sa := sa.later lb
  replace sb := sb.later lb
  replace sc := sc.later lb
  clear lb B7
  refine (add_k sc s1 (K + 1) (by omega) (by omega) (by omega)).mono ?_
  rintro e w9 ⟨fo, fn, fc, rfl, sf, lf, lb⟩
  try simp only [val_toL] at sf
  have B9 := B8.trans (lb.mono B8.size)
  replace sa := sa.later lb
  replace sb := sb.later lb
  replace sc := sc.later lb
  clear lb B8 s1
  go_wp2_with fail
  refine (add_k sa sc (K) (by omega) (by omega) (by omega)).mono ?_
  rintro e w10 ⟨to, tn, tc, rfl, st, lt, lb⟩
  try simp only [val_toL] at st
  have B10 := B9.trans (lb.mono B9.size)
  replace sa := sa.later lb
  replace sb := sb.later lb
  replace sc := sc.later lb
  replace sf := sf.later lb
  clear lb B9
  go_wp2_with fail
  refine (add_k sb sc (K) (by omega) (by omega) (by omega)).mono ?_
  rintro e w11 ⟨uo, un, uc, rfl, su, lu, lb⟩
  try simp only [val_toL] at su
  have B11 := B10.trans (lb.mono B10.size)
  replace sa := sa.later lb
  replace sb := sb.later lb
  replace sc := sc.later lb
  replace sf := sf.later lb
  replace st := st.later lb
  clear lb B10
  go_wp2_with fail
  refine (cmp_k st su (by omega) (by omega)).mono ?_
  rintro e w12 ⟨rfl, lb⟩
  have B12 := B11.trans (lb.mono B11.size)
  replace sa := sa.later lb
  replace sb := sb.later lb
  replace sc := sc.later lb
  replace sf := sf.later lb
  clear lb B11 st su
  rw [val_toL, val_toL, cmpN_add, HX.out]
  go_wp2_with fail
  refine (mul_k sa sf (K) (K + 2) (by omega) (by omega) (by omega) (by omega)).mono ?_
  rintro e w13 ⟨to, tn, tc, rfl, st, lt, lb⟩
  try simp only [val_toL] at st
  have B13 := B12.trans (lb.mono B12.size)
  replace sa := sa.later lb
  replace sb := sb.later lb
  replace sc := sc.later lb
  replace sf := sf.later lb
  clear lb B12
  go_wp2_with fail
  refine (mul_k sb sf (K) (K + 2) (by omega) (by omega) (by omega) (by omega)).mono ?_
  rintro e w14 ⟨uo, un, uc, rfl, su, lu, lb⟩
  try simp only [val_toL] at su
  have B14 := B13.trans (lb.mono B13.size)
  replace sa := sa.later lb
  replace sb := sb.later lb
  replace sc := sc.later lb
  replace sf := sf.later lb
  replace st := st.later lb
  clear lb B13
  go_wp2_with fail
  refine (cmp_k st su (by omega) (by omega)).mono ?_
  rintro e w15 ⟨rfl, lb⟩
  have B15 := B14.trans (lb.mono B14.size)
  replace sa := sa.later lb
  replace sb := sb.later lb
  replace sc := sc.later lb
  replace sf := sf.later lb
  clear lb B14 st su
  rw [val_toL, val_toL, val_cons, val_nil, show val zs + (1 + 4294967296 * 0) = val zs + 1 from rfl, cmpN_mul, HX.out]
  go_wp2
  go_ret
  exact ⟨rfl, B15⟩

set_option maxHeartbeats 4000000 in
theorem orders_2 (Y Z : Int) (w : World) (ao bo co : Option Addr) (an ac bn bc cn cc K : Nat) (xs ys zs : List Nat) (sa : Sl w.heap.size w ao an ac xs) (sb : Sl w.heap.size w bo bn bc ys) (sc : Sl w.heap.size w co cn cc zs)
    (la : an ≤ K) (lb0 : bn ≤ K) (lc : cn ≤ K) (hK : K ≤ 1048576) (HX : Hid (cmpN (val xs) (val ys) = 0)) (HY : Hid (cmpN (val ys) (val zs) = Y)) (HZ : Hid (cmpN (val xs) (val zs) = Z)) (HN : Hid (cmpN (val ys) (val xs) = 0)) (gy : decide (Y ≤ 0) = true) (gz : decide (0 < Z) = false) (HB : Hid (nb (val xs) ≤ nb (val ys))) :
    Calls Try.prog 8 #[.slice ao an ac, .slice bo bn bc, .slice co cn cc] w fun e w' => e = .returned (.bool true) ∧ Below w.heap.size w w' := by
  go_enter Try.func8, Try.ntmps8
  have B0 : Below w.heap.size w w := Below.refl _ _
  go_wp2_with fail
  refine (cmp_k sa sb (by omega) (by omega)).mono ?_
  rintro e w1 ⟨rfl, lb⟩
  have B1 := B0.trans (lb.mono B0.size)
  replace sa := sa.later lb
  replace sb := sb.later lb
  replace sc := sc.later lb
  clear lb B0
  skip
  rw [HX.out]
  go_wp2_with fail
  refine (cmp_k sb sc (by omega) (by omega)).mono ?_
  rintro e w2 ⟨rfl, lb⟩
  have B2 := B1.trans (lb.mono B1.size)
  replace sa := sa.later lb
  replace sb := sb.later lb
  replace sc := sc.later lb
  clear lb B1
  skip
  rw [HY.out]
  go_wp2_with fail
  refine (cmp_k sa sc (by omega) (by omega)).mono ?_
  rintro e w3 ⟨rfl, lb⟩
  have B3 := B2.trans (lb.mono B2.size)
  replace sa := sa.later lb
  replace sb := sb.later lb
  replace sc := sc.later lb
  clear lb B2
  skip
  rw [HZ.out]
  go_wp2_with fail
  refine (fixed_any _).mono ?_
  rintro e w4 ⟨rfl, lb⟩
  have B4 := B3.trans (lb.mono B3.size)
  replace sa := sa.later lb
  replace sb := sb.later lb
  replace sc := sc.later lb
  clear lb B3
  go_wp2_with fail
  refine (cmp_k sb sa (by omega) (by omega)).mono ?_
  rintro e w5 ⟨rfl, lb⟩
  have B5 := B4.trans (lb.mono B4.size)
  replace sa := sa.later lb
  replace sb := sb.later lb
  replace sc := sc.later lb
  clear lb B4
  skip
  rw [HN.out]
  go_wp2_with fail
  refine (bits_k sa (by omega)).mono ?_
  rintro e w6 ⟨rfl, lb⟩
  have B6 := B5.trans (lb.mono B5.size)
  replace sa := sa.later lb
  replace sb := sb.later lb
  replace sc := sc.later lb
  clear lb B5
  go_wp2_with fail
  refine (bits_k sb (by omega)).mono ?_
  rintro e w7 ⟨rfl, lb⟩
  have B7 := B6.trans (lb.mono B6.size)
  replace sa := sa.later lb
  replace sb := sb.later lb
  replace sc := sc.later lb
  clear lb B6
  have hbd := HB.out
  generalize nb (val xs) = na at hbd ⊢
  generalize nb (val ys) = nbb at hbd ⊢
  go_wp2_with fail
  obtain ⟨s1, lb⟩ := lit1 w7 1 [1] #[.int .u32 1] rfl (lim1 (by omega)) rfl
  obtain ⟨w8, hw1⟩ : ∃ w1, w1 = w7.alloc (.cells #[.int .u32 1] 38) := ⟨_, rfl⟩
  rw [← hw1] at s1 lb ⊢
  clear hw1
  have B8 := B7.trans (lb.mono B7.size)
  replace sa := sa.later lb
  replace sb := sb.later lb
  replace sc := sc.later lb
  clear lb B7
  refine (add_k sc s1 (K + 1) (by omega) (by omega) (by omega)).mono ?_
  rintro e w9 ⟨fo, fn, fc, rfl, sf, lf, lb⟩
  try simp only [val_toL] at sf
  have B9 := B8.trans (lb.mono B8.size)
  replace sa := sa.later lb
  replace sb := sb.later lb
  replace sc := sc.later lb
  clear lb B8 s1
  go_wp2_with fail
  refine (add_k sa sc (K) (by omega) (by omega) (by omega)).mono ?_
  rintro e w10 ⟨to, tn, tc, rfl, st, lt, lb⟩
  try simp only [val_toL] at st
  have B10 := B9.trans (lb.mono B9.size)
  replace sa := sa.later lb
  replace sb := sb.later lb
  replace sc := sc.later lb
  replace sf := sf.later lb
  clear lb B9
  go_wp2_with fail
  refine (add_k sb sc (K) (by omega) (by omega) (by omega)).mono ?_
  rintro e w11 ⟨uo, un, uc, rfl, su, lu, lb⟩
  try simp only [val_toL] at su
  have B11 := B10.trans (lb.mono B10.size)
  replace sa := sa.later lb
  replace sb := sb.later lb
  replace sc := sc.later lb
  replace sf := sf.later lb
  replace st := st.later lb
  clear lb B10
  go_wp2_with fail
  refine (cmp_k st su (by omega) (by omega)).mono ?_
  rintro e w12 ⟨rfl, lb⟩
  have B12 := B11.trans (lb.mono B11.size)
  replace sa := sa.later lb
  replace sb := sb.later lb
  replace sc := sc.later lb
  replace sf := sf.later lb
  clear lb B11 st su
  rw [val_toL, val_toL, cmpN_add, HX.out]
  go_wp2_with fail
  refine (mul_k sa sf (K) (K + 2) (by omega) (by omega) (by omega) (by omega)).mono ?_
  rintro e w13 ⟨to, tn, tc, rfl, st, lt, lb⟩
  try simp only [val_toL] at st
  have B13 := B12.trans (lb.mono B12.size)
  replace sa := sa.later lb
  replace sb := sb.later lb
  replace sc := sc.later lb
  replace sf := sf.later lb
  clear lb B12
  go_wp2_with fail
  refine (mul_k sb sf (K) (K + 2) (by omega) (by omega) (by omega) (by omega)).mono ?_
  rintro e w14 ⟨uo, un, uc, rfl, su, lu, lb⟩
  try simp only [val_toL] at su
  have B14 := B13.trans (lb.mono B13.size)
  replace sa := sa.later lb
  replace sb := sb.later lb
  replace sc := sc.later lb
  replace sf := sf.later lb
  replace st := st.later lb
  clear lb B13
  go_wp2_with fail
  refine (cmp_k st su (by omega) (by omega)).mono ?_
  rintro e w15 ⟨rfl, lb⟩
  have B15 := B14.trans (lb.mono B14.size)
  replace sa := sa.later lb
  replace sb := sb.later lb
  replace sc := sc.later lb
  replace sf := sf.later lb
  clear lb B14 st su
  rw [val_toL, val_toL, val_cons, val_nil, show val zs + (1 + 4294967296 * 0) = val zs + 1 from rfl, cmpN_mul, HX.out]
  go_wp2
  go_ret
  exact ⟨rfl, B15⟩

set_option maxHeartbeats 4000000 in
theorem orders_3 (Y Z : Int) (w : World) (ao bo co : Option Addr) (an ac bn bc cn cc K : Nat) (xs ys zs : List Nat) (sa : Sl w.heap.size w ao an ac xs) (sb : Sl w.heap.size w bo bn bc ys) (sc : Sl w.heap.size w co cn cc zs)
    (la : an ≤ K) (lb0 : bn ≤ K) (lc : cn ≤ K) (hK : K ≤ 1048576) (HX : Hid (cmpN (val xs) (val ys) = 0)) (HY : Hid (cmpN (val ys) (val zs) = Y)) (HZ : Hid (cmpN (val xs) (val zs) = Z)) (HN : Hid (cmpN (val ys) (val xs) = 0)) (gy : decide (Y ≤ 0) = false) (HB : Hid (nb (val xs) ≤ nb (val ys))) :
    Calls Try.prog 8 #[.slice ao an ac, .slice bo bn bc, .slice co cn cc] w fun e w' => e = .returned (.bool true) ∧ Below w.heap.size w w' := by
  go_enter Try.func8, Try.ntmps8
  have B0 : Below w.heap.size w w := Below.refl _ _
  go_wp2_with fail
  refine (cmp_k sa sb (by omega) (by omega)).mono ?_
  rintro e w1 ⟨rfl, lb⟩
  have B1 := B0.trans (lb.mono B0.size)
  replace sa := sa.later lb
  replace sb := sb.later lb
  replace sc := sc.later lb
  clear lb B0
  skip
  rw [HX.out]
  go_wp2_with fail
  refine (cmp_k sb sc (by omega) (by omega)).mono ?_
  rintro e w2 ⟨rfl, lb⟩
  have B2 := B1.trans (lb.mono B1.size)
  replace sa := sa.later lb
  replace sb := sb.later lb
  replace sc := sc.later lb
  clear lb B1
  skip
  rw [HY.out]
  go_wp2_with fail
  refine (cmp_k sa sc (by omega) (by omega)).mono ?_
  rintro e w3 ⟨rfl, lb⟩
  have B3 := B2.trans (lb.mono B2.size)
  replace sa := sa.later lb
  replace sb := sb.later lb
  replace sc := sc.later lb
  clear lb B2
  skip
  rw [HZ.out]
  go_wp2_with fail
  refine (fixed_any _).mono ?_
  rintro e w4 ⟨rfl, lb⟩
  have B4 := B3.trans (lb.mono B3.size)
  replace sa := sa.later lb
  replace sb := sb.later lb
  replace sc := sc.later lb
  clear lb B3
  go_wp2_with fail
  refine (cmp_k sb sa (by omega) (by omega)).mono ?_
  rintro e w5 ⟨rfl, lb⟩
  have B5 := B4.trans (lb.mono B4.size)
  replace sa := sa.later lb
  replace sb := sb.later lb
  replace sc := sc.later lb
  clear lb B4
  skip
  rw [HN.out]
  go_wp2_with fail
  refine (bits_k sa (by omega)).mono ?_
  rintro e w6 ⟨rfl, lb⟩
  have B6 := B5.trans (lb.mono B5.size)
  replace sa := sa.later lb
  replace sb := sb.later lb
  replace sc := sc.later lb
  clear lb B5
  go_wp2_with fail
  refine (bits_k sb (by omega)).mono ?_
  rintro e w7 ⟨rfl, lb⟩
  have B7 := B6.trans (lb.mono B6.size)
  replace sa := sa.later lb
  replace sb := sb.later lb
  replace sc := sc.later lb
  clear lb B6
  have hbd := HB.out
  generalize nb (val xs) = na at hbd ⊢
  generalize nb (val ys) = nbb at hbd ⊢
  go_wp2_with fail
  obtain ⟨s1, lb⟩ := lit1 w7 1 [1] #[.int .u32 1] rfl (lim1 (by omega)) rfl
  obtain ⟨w8, hw1⟩ : ∃ w1, w1 = w7.alloc (.cells #[.int .u32 1] 38) := ⟨_, rfl⟩
  rw [← hw1] at s1 lb ⊢
  clear hw1
  have B8 := B7.trans (lb.mono B7.size)
  replace sa := sa.later lb
  replace sb := sb.later lb
  replace sc := sc.later lb
  clear lb B7
  refine (add_k sc s1 (K + 1) (by omega) (by omega) (by omega)).mono ?_
  rintro e w9 ⟨fo, fn, fc, rfl, sf, lf, lb⟩
  try simp only [val_toL] at sf
  have B9 := B8.trans (lb.mono B8.size)
  replace sa := sa.later lb
  replace sb := sb.later lb
  replace sc := sc.later lb
  clear lb B8 s1
  go_wp2_with fail
  refine (add_k sa sc (K) (by omega) (by omega) (by omega)).mono ?_
  rintro e w10 ⟨to, tn, tc, rfl, st, lt, lb⟩
  try simp only [val_toL] at st
  have B10 := B9.trans (lb.mono B9.size)
  replace sa := sa.later lb
  replace sb := sb.later lb
  replace sc := sc.later lb
  replace sf := sf.later lb
  clear lb B9
  go_wp2_with fail
  refine (add_k sb sc (K) (by omega) (by omega) (by omega)).mono ?_
  rintro e w11 ⟨uo, un, uc, rfl, su, lu, lb⟩
  try simp only [val_toL] at su
  have B11 := B10.trans (lb.mono B10.size)
  replace sa := sa.later lb
  replace sb := sb.later lb
  replace sc := sc.later lb
  replace sf := sf.later lb
  replace st := st.later lb
  clear lb B10
  go_wp2_with fail
  refine (cmp_k st su (by omega) (by omega)).mono ?_
  rintro e w12 ⟨rfl, lb⟩
  have B12 := B11.trans (lb.mono B11.size)
  replace sa := sa.later lb
  replace sb := sb.later lb
  replace sc := sc.later lb
  replace sf := sf.later lb
  clear lb B11 st su
  rw [val_toL, val_toL, cmpN_add, HX.out]
  go_wp2_with fail
  refine (mul_k sa sf (K) (K + 2) (by omega) (by omega) (by omega) (by omega)).mono ?_
  rintro e w13 ⟨to, tn, tc, rfl, st, lt, lb⟩
  try simp only [val_toL] at st
  have B13 := B12.trans (lb.mono B12.size)
  replace sa := sa.later lb
  replace sb := sb.later lb
  replace sc := sc.later lb
  replace sf := sf.later lb
  clear lb B12
  go_wp2_with fail
  refine (mul_k sb sf (K) (K + 2) (by omega) (by omega) (by omega) (by omega)).mono ?_
  rintro e w14 ⟨uo, un, uc, rfl, su, lu, lb⟩
  try simp only [val_toL] at su
  have B14 := B13.trans (lb.mono B13.size)
  replace sa := sa.later lb
  replace sb := sb.later lb
  replace sc := sc.later lb
  replace sf := sf.later lb
  replace st := st.later lb
  clear lb B13
  go_wp2_with fail
  refine (cmp_k st su (by omega) (by omega)).mono ?_
  rintro e w15 ⟨rfl, lb⟩
  have B15 := B14.trans (lb.mono B14.size)
  replace sa := sa.later lb
  replace sb := sb.later lb
  replace sc := sc.later lb
  replace sf := sf.later lb
  clear lb B14 st su
  rw [val_toL, val_toL, val_cons, val_nil, show val zs + (1 + 4294967296 * 0) = val zs + 1 from rfl, cmpN_mul, HX.out]
  go_wp2
  go_ret
  exact ⟨rfl, B15⟩

set_option maxHeartbeats 4000000 in
theorem orders_4 (Y Z : Int) (w : World) (ao bo co : Option Addr) (an ac bn bc cn cc K : Nat) (xs ys zs : List Nat) (sa : Sl w.heap.size w ao an ac xs) (sb : Sl w.heap.size w bo bn bc ys) (sc : Sl w.heap.size w co cn cc zs)
    (la : an ≤ K) (lb0 : bn ≤ K) (lc : cn ≤ K) (hK : K ≤ 1048576) (HX : Hid (cmpN (val xs) (val ys) = 1)) (HY : Hid (cmpN (val ys) (val zs) = Y)) (HZ : Hid (cmpN (val xs) (val zs) = Z)) (HN : Hid (cmpN (val ys) (val xs) = -1))   :
    Calls Try.prog 8 #[.slice ao an ac, .slice bo bn bc, .slice co cn cc] w fun e w' => e = .returned (.bool true) ∧ Below w.heap.size w w' := by
  go_enter Try.func8, Try.ntmps8
  have B0 : Below w.heap.size w w := Below.refl _ _
  go_wp2_with fail
  refine (cmp_k sa sb (by omega) (by omega)).mono ?_
  rintro e w1 ⟨rfl, lb⟩
  have B1 := B0.trans (lb.mono B0.size)
  replace sa := sa.later lb
  replace sb := sb.later lb
  replace sc := sc.later lb
  clear lb B0
  skip
  rw [HX.out]
  go_wp2_with fail
  refine (cmp_k sb sc (by omega) (by omega)).mono ?_
  rintro e w2 ⟨rfl, lb⟩
  have B2 := B1.trans (lb.mono B1.size)
  replace sa := sa.later lb
  replace sb := sb.later lb
  replace sc := sc.later lb
  clear lb B1
  skip
  rw [HY.out]
  go_wp2_with fail
  refine (cmp_k sa sc (by omega) (by omega)).mono ?_
  rintro e w3 ⟨rfl, lb⟩
  have B3 := B2.trans (lb.mono B2.size)
  replace sa := sa.later lb
  replace sb := sb.later lb
  replace sc := sc.later lb
  clear lb B2
  skip
  rw [HZ.out]
  go_wp2_with fail
  refine (fixed_any _).mono ?_
  rintro e w4 ⟨rfl, lb⟩
  have B4 := B3.trans (lb.mono B3.size)
  replace sa := sa.later lb
  replace sb := sb.later lb
  replace sc := sc.later lb
  clear lb B3
  go_wp2_with fail
  refine (cmp_k sb sa (by omega) (by omega)).mono ?_
  rintro e w5 ⟨rfl, lb⟩
  have B5 := B4.trans (lb.mono B4.size)
  replace sa := sa.later lb
  replace sb := sb.later lb
  replace sc := sc.later lb
  clear lb B4
  skip
  rw [HN.out]
  go_wp2_with fail
  refine (bits_k sa (by omega)).mono ?_
  rintro e w6 ⟨rfl, lb⟩
  have B6 := B5.trans (lb.mono B5.size)
  replace sa := sa.later lb
  replace sb := sb.later lb
  replace sc := sc.later lb
  clear lb B5
  go_wp2_with fail
  refine (bits_k sb (by omega)).mono ?_
  rintro e w7 ⟨rfl, lb⟩
  have B7 := B6.trans (lb.mono B6.size)
  replace sa := sa.later lb
  replace sb := sb.later lb
  replace sc := sc.later lb
  clear lb B6
  generalize nb (val xs) = na
  generalize nb (val ys) = nbb
  by_cases hbd : nbb < na
  · have hbe : decide (nbb < na) = true := by simpa using hbd
    go_wp2_with fail
    obtain ⟨s1, lb⟩ := lit1 w7 1 [1] #[.int .u32 1] rfl (lim1 (by omega)) rfl
    obtain ⟨w8, hw1⟩ : ∃ w1, w1 = w7.alloc (.cells #[.int .u32 1] 38) := ⟨_, rfl⟩
    rw [← hw1] at s1 lb ⊢
    clear hw1
    have B8 := B7.trans (lb.mono B7.size)
    replace sa := sa.later lb
    replace sb := sb.later lb
    replace sc := sc.later lb
    clear lb B7
    refine (add_k sc s1 (K + 1) (by omega) (by omega) (by omega)).mono ?_
    rintro e w9 ⟨fo, fn, fc, rfl, sf, lf, lb⟩
    try simp only [val_toL] at sf
    have B9 := B8.trans (lb.mono B8.size)
    replace sa := sa.later lb
    replace sb := sb.later lb
    replace sc := sc.later lb
    clear lb B8 s1
    go_wp2_with fail
    refine (add_k sa sc (K) (by omega) (by omega) (by omega)).mono ?_
    rintro e w10 ⟨to, tn, tc, rfl, st, lt, lb⟩
    try simp only [val_toL] at st
    have B10 := B9.trans (lb.mono B9.size)
    replace sa := sa.later lb
    replace sb := sb.later lb
    replace sc := sc.later lb
    replace sf := sf.later lb
    clear lb B9
    go_wp2_with fail
    refine (add_k sb sc (K) (by omega) (by omega) (by omega)).mono ?_
    rintro e w11 ⟨uo, un, uc, rfl, su, lu, lb⟩
    try simp only [val_toL] at su
    have B11 := B10.trans (lb.mono B10.size)
    replace sa := sa.later lb
    replace sb := sb.later lb
    replace sc := sc.later lb
    replace sf := sf.later lb
    replace st := st.later lb
    clear lb B10
    go_wp2_with fail
    refine (cmp_k st su (by omega) (by omega)).mono ?_
    rintro e w12 ⟨rfl, lb⟩
    have B12 := B11.trans (lb.mono B11.size)
    replace sa := sa.later lb
    replace sb := sb.later lb
    replace sc := sc.later lb
    replace sf := sf.later lb
    clear lb B11 st su
    rw [val_toL, val_toL, cmpN_add, HX.out]
    go_wp2_with fail
    refine (mul_k sa sf (K) (K + 2) (by omega) (by omega) (by omega) (by omega)).mono ?_
    rintro e w13 ⟨to, tn, tc, rfl, st, lt, lb⟩
    try simp only [val_toL] at st
    have B13 := B12.trans (lb.mono B12.size)
    replace sa := sa.later lb
    replace sb := sb.later lb
    replace sc := sc.later lb
    replace sf := sf.later lb
    clear lb B12
    go_wp2_with fail
    refine (mul_k sb sf (K) (K + 2) (by omega) (by omega) (by omega) (by omega)).mono ?_
    rintro e w14 ⟨uo, un, uc, rfl, su, lu, lb⟩
    try simp only [val_toL] at su
    have B14 := B13.trans (lb.mono B13.size)
    replace sa := sa.later lb
    replace sb := sb.later lb
    replace sc := sc.later lb
    replace sf := sf.later lb
    replace st := st.later lb
    clear lb B13
    go_wp2_with fail
    refine (cmp_k st su (by omega) (by omega)).mono ?_
    rintro e w15 ⟨rfl, lb⟩
    have B15 := B14.trans (lb.mono B14.size)
    replace sa := sa.later lb
    replace sb := sb.later lb
    replace sc := sc.later lb
    replace sf := sf.later lb
    clear lb B14 st su
    rw [val_toL, val_toL, val_cons, val_nil, show val zs + (1 + 4294967296 * 0) = val zs + 1 from rfl, cmpN_mul, HX.out]
    go_wp2
    go_ret
    exact ⟨rfl, B15⟩
  · have hbe : decide (nbb < na) = false := by simpa using hbd
    go_wp2_with fail
    obtain ⟨s1, lb⟩ := lit1 w7 1 [1] #[.int .u32 1] rfl (lim1 (by omega)) rfl
    obtain ⟨w8, hw1⟩ : ∃ w1, w1 = w7.alloc (.cells #[.int .u32 1] 38) := ⟨_, rfl⟩
    rw [← hw1] at s1 lb ⊢
    clear hw1
    have B8 := B7.trans (lb.mono B7.size)
    replace sa := sa.later lb
    replace sb := sb.later lb
    replace sc := sc.later lb
    clear lb B7
    refine (add_k sc s1 (K + 1) (by omega) (by omega) (by omega)).mono ?_
    rintro e w9 ⟨fo, fn, fc, rfl, sf, lf, lb⟩
    try simp only [val_toL] at sf
    have B9 := B8.trans (lb.mono B8.size)
    replace sa := sa.later lb
    replace sb := sb.later lb
    replace sc := sc.later lb
    clear lb B8 s1
    go_wp2_with fail
    refine (add_k sa sc (K) (by omega) (by omega) (by omega)).mono ?_
    rintro e w10 ⟨to, tn, tc, rfl, st, lt, lb⟩
    try simp only [val_toL] at st
    have B10 := B9.trans (lb.mono B9.size)
    replace sa := sa.later lb
    replace sb := sb.later lb
    replace sc := sc.later lb
    replace sf := sf.later lb
    clear lb B9
    go_wp2_with fail
    refine (add_k sb sc (K) (by omega) (by omega) (by omega)).mono ?_
    rintro e w11 ⟨uo, un, uc, rfl, su, lu, lb⟩
    try simp only [val_toL] at su
    have B11 := B10.trans (lb.mono B10.size)
    replace sa := sa.later lb
    replace sb := sb.later lb
    replace sc := sc.later lb
    replace sf := sf.later lb
    replace st := st.later lb
    clear lb B10
    go_wp2_with fail
    refine (cmp_k st su (by omega) (by omega)).mono ?_
    rintro e w12 ⟨rfl, lb⟩
    have B12 := B11.trans (lb.mono B11.size)
    replace sa := sa.later lb
    replace sb := sb.later lb
    replace sc := sc.later lb
    replace sf := sf.later lb
    clear lb B11 st su
    rw [val_toL, val_toL, cmpN_add, HX.out]
    go_wp2_with fail
    refine (mul_k sa sf (K) (K + 2) (by omega) (by omega) (by omega) (by omega)).mono ?_
    rintro e w13 ⟨to, tn, tc, rfl, st, lt, lb⟩
    try simp only [val_toL] at st
    have B13 := B12.trans (lb.mono B12.size)
    replace sa := sa.later lb
    replace sb := sb.later lb
    replace sc := sc.later lb
    replace sf := sf.later lb
    clear lb B12
    go_wp2_with fail
    refine (mul_k sb sf (K) (K + 2) (by omega) (by omega) (by omega) (by omega)).mono ?_
    rintro e w14 ⟨uo, un, uc, rfl, su, lu, lb⟩
    try simp only [val_toL] at su
    have B14 := B13.trans (lb.mono B13.size)
    replace sa := sa.later lb
    replace sb := sb.later lb
    replace sc := sc.later lb
    replace sf := sf.later lb
    replace st := st.later lb
    clear lb B13
    go_wp2_with fail
    refine (cmp_k st su (by omega) (by omega)).mono ?_
    rintro e w15 ⟨rfl, lb⟩
    have B15 := B14.trans (lb.mono B14.size)
    replace sa := sa.later lb
    replace sb := sb.later lb
    replace sc := sc.later lb
    replace sf := sf.later lb
    clear lb B14 st su
    rw [val_toL, val_toL, val_cons, val_nil, show val zs + (1 + 4294967296 * 0) = val zs + 1 from rfl, cmpN_mul, HX.out]
    go_wp2
    go_ret
    exact ⟨rfl, B15⟩

theorem orders_any (w : World) (ao bo co : Option Addr) (an ac bn bc cn cc K : Nat) (xs ys zs : List Nat) (sa : Sl w.heap.size w ao an ac xs) (sb : Sl w.heap.size w bo bn bc ys) (sc : Sl w.heap.size w co cn cc zs)
    (la : an ≤ K) (lb0 : bn ≤ K) (lc : cn ≤ K) (hK : K ≤ 1048576) :
    Calls Try.prog 8 #[.slice ao an ac, .slice bo bn bc, .slice co cn cc] w fun e w' => e = .returned (.bool true) ∧ Below w.heap.size w w' := by
  have hneg := cmpN_neg (val xs) (val ys)
  have hbits : val xs ≤ val ys → nb (val xs) ≤ nb (val ys) := fun h => nb_mono h
  have hle : ∀ a b, a ≤ b → decide (cmpN a b ≤ 0) = true := fun a b h => by unfold cmpN; split <;> (try split) <;> simp <;> omega
  have hgt : ∀ a b, b < a → decide (cmpN a b ≤ 0) = false := fun a b h => by rw [cmpN_gt h]; rfl
  rcases Nat.lt_trichotomy (val xs) (val ys) with h | h | h
  · rw [cmpN_lt h] at hneg
    by_cases hy : val ys ≤ val zs
    · exact orders_0 _ _ w ao bo co an ac bn bc cn cc K xs ys zs sa sb sc la lb0 lc hK (cmpN_lt h) rfl rfl hneg (hle _ _ hy) (by rw [cmpN_lt (by omega)]; rfl) (by rw [cmpN_lt (by omega)]; rfl) (hbits (by omega))
    · exact orders_1 _ _ w ao bo co an ac bn bc cn cc K xs ys zs sa sb sc la lb0 lc hK (cmpN_lt h) rfl rfl hneg (hgt _ _ (by omega)) (hbits (by omega))
  · rw [cmpN_eq h] at hneg
    by_cases hy : val ys ≤ val zs
    · exact orders_2 _ _ w ao bo co an ac bn bc cn cc K xs ys zs sa sb sc la lb0 lc hK (cmpN_eq h) rfl rfl hneg (hle _ _ hy) (by unfold cmpN; split <;> (try split) <;> simp <;> omega) (hbits (by omega))
    · exact orders_3 _ _ w ao bo co an ac bn bc cn cc K xs ys zs sa sb sc la lb0 lc hK (cmpN_eq h) rfl rfl hneg (hgt _ _ (by omega)) (hbits (by omega))
  · rw [cmpN_gt h] at hneg
    exact orders_4 _ _ w ao bo co an ac bn bc cn cc K xs ys zs sa sb sc la lb0 lc hK (cmpN_gt h) rfl rfl hneg

end Go.Proofs.Ytpbpkemmmmjjlaa

