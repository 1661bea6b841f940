/- penumbralaw01.NatRing: true, whatever the three naturals are (of at most K limbs). -/
import Derived.Test.YtpbpkemmmmjjlaaL0
namespace Go.Proofs.Ytpbpkemmmmjjlaa
open Go.RowKit M

set_option maxHeartbeats 4000000 in
theorem ring_any (w : World) (ao bo co : Option Addr) (an ac bn bc cn cc K : Nat) (xs ys zs : List Nat) (sa : Sl w.heap.size w ao an ac xs) (sb : Sl w.heap.size w bo bn bc ys) (sc : Sl w.heap.size w co cn cc zs)
    (la : an ≤ K) (lb0 : bn ≤ K) (lc : cn ≤ K) (hK : K ≤ 1048576) :
    Calls Try.prog 6 #[.slice ao an ac, .slice bo bn bc, .slice co cn cc] w fun e w' => e = .returned (.bool true) ∧ Below w.heap.size w w' := by
  go_enter Try.func6, Try.ntmps6
  have B0 : Below w.heap.size w w := Below.refl _ _
  go_wp2_with fail
  obtain ⟨s1, lb⟩ := lit1 w 1 [1] #[.int .u32 1] rfl (lim1 (by omega)) rfl
  obtain ⟨w1, hw1⟩ : ∃ w1, w1 = w.alloc (.cells #[.int .u32 1] 38) := ⟨_, rfl⟩
  rw [← hw1] at s1 lb ⊢
  clear hw1
  have B1 := B0.trans (lb.mono B0.size)
  replace sa := sa.later lb
  replace sb := sb.later lb
  replace sc := sc.later lb
  clear lb B0
  refine (add_k sa sb (K) (by omega) (by omega) (by omega)).mono ?_
  rintro e w2 ⟨abo, abn, abc, rfl, sab, lab, lb⟩
  try simp only [val_toL] at sab
  have B2 := B1.trans (lb.mono B1.size)
  replace sa := sa.later lb
  replace sb := sb.later lb
  replace sc := sc.later lb
  replace s1 := s1.later lb
  clear lb B1
  go_wp2_with fail
  refine (add_k sb sa (K) (by omega) (by omega) (by omega)).mono ?_
  rintro e w3 ⟨to, tn, tc, rfl, st, lt, lb⟩
  try simp only [val_toL] at st
  have B3 := B2.trans (lb.mono B2.size)
  replace sa := sa.later lb
  replace sb := sb.later lb
  replace sc := sc.later lb
  replace s1 := s1.later lb
  replace sab := sab.later lb
  clear lb B2
  go_wp2_with fail
  refine (same_k sab st (by rw [Nat.add_comm]) (by omega)).mono ?_
  rintro e w4 ⟨rfl, lb⟩
  have B4 := B3.trans (lb.mono B3.size)
  replace sa := sa.later lb
  replace sb := sb.later lb
  replace sc := sc.later lb
  replace s1 := s1.later lb
  replace sab := sab.later lb
  clear lb B3 st
  go_wp2_with fail
  refine (add_k sab sc (K + 1) (by omega) (by omega) (by omega)).mono ?_
  rintro e w5 ⟨to, tn, tc, rfl, st, lt, lb⟩
  try simp only [val_toL] at st
  have B5 := B4.trans (lb.mono B4.size)
  replace sa := sa.later lb
  replace sb := sb.later lb
  replace sc := sc.later lb
  replace s1 := s1.later lb
  replace sab := sab.later lb
  clear lb B4
  go_wp2_with fail
  refine (add_k sb sc (K) (by omega) (by omega) (by omega)).mono ?_
  rintro e w6 ⟨uo, un, uc, rfl, su, lu, lb⟩
  try simp only [val_toL] at su
  have B6 := B5.trans (lb.mono B5.size)
  replace sa := sa.later lb
  replace sb := sb.later lb
  replace sc := sc.later lb
  replace s1 := s1.later lb
  replace sab := sab.later lb
  replace st := st.later lb
  clear lb B5
  go_wp2_with fail
  refine (add_k sa su (K + 1) (by omega) (by omega) (by omega)).mono ?_
  rintro e w7 ⟨vo, vn, vc, rfl, sv, lv, lb⟩
  try simp only [val_toL] at sv
  have B7 := B6.trans (lb.mono B6.size)
  replace sa := sa.later lb
  replace sb := sb.later lb
  replace sc := sc.later lb
  replace s1 := s1.later lb
  replace sab := sab.later lb
  replace st := st.later lb
  replace su := su.later lb
  clear lb B6
  go_wp2_with fail
  refine (same_k st sv (by rw [Nat.add_assoc]) (by omega)).mono ?_
  rintro e w8 ⟨rfl, lb⟩
  have B8 := B7.trans (lb.mono B7.size)
  replace sa := sa.later lb
  replace sb := sb.later lb
  replace sc := sc.later lb
  replace s1 := s1.later lb
  replace sab := sab.later lb
  clear lb B7 st su sv
  go_wp2_with fail
  refine (add_k sa (Sl.nil _ _) (K) (by omega) (by omega) (by omega)).mono ?_
  rintro e w9 ⟨to, tn, tc, rfl, st, lt, lb⟩
  try simp only [val_toL] at st
  have B9 := B8.trans (lb.mono B8.size)
  replace sa := sa.later lb
  replace sb := sb.later lb
  replace sc := sc.later lb
  replace s1 := s1.later lb
  replace sab := sab.later lb
  clear lb B8
  go_wp2_with fail
  refine (norm_k sa (K) (by omega) (by omega)).mono ?_
  rintro e w10 ⟨uo, un, uc, rfl, su, lu, lb⟩
  try simp only [val_toL] at su
  have B10 := B9.trans (lb.mono B9.size)
  replace sa := sa.later lb
  replace sb := sb.later lb
  replace sc := sc.later lb
  replace s1 := s1.later lb
  replace sab := sab.later lb
  replace st := st.later lb
  clear lb B9
  go_wp2_with fail
  refine (same_k st su (by simp [val]) (by omega)).mono ?_
  rintro e w11 ⟨rfl, lb⟩
  have B11 := B10.trans (lb.mono B10.size)
  replace sa := sa.later lb
  replace sb := sb.later lb
  replace sc := sc.later lb
  replace s1 := s1.later lb
  replace sab := sab.later lb
  clear lb B10 st su
  go_wp2_with fail
  refine (mul_k sa sb (K) (K) (by omega) (by omega) (by omega) (by omega)).mono ?_
  rintro e w12 ⟨to, tn, tc, rfl, st, lt, lb⟩
  try simp only [val_toL] at st
  have B12 := B11.trans (lb.mono B11.size)
  replace sa := sa.later lb
  replace sb := sb.later lb
  replace sc := sc.later lb
  replace s1 := s1.later lb
  replace sab := sab.later lb
  clear lb B11
  go_wp2_with fail
  refine (mul_k sb sa (K) (K) (by omega) (by omega) (by omega) (by omega)).mono ?_
  rintro e w13 ⟨uo, un, uc, rfl, su, lu, lb⟩
  try simp only [val_toL] at su
  have B13 := B12.trans (lb.mono B12.size)
  replace sa := sa.later lb
  replace sb := sb.later lb
  replace sc := sc.later lb
  replace s1 := s1.later lb
  replace sab := sab.later lb
  replace st := st.later lb
  clear lb B12
  go_wp2_with fail
  refine (same_k st su (by rw [Nat.mul_comm]) (by omega)).mono ?_
  rintro e w14 ⟨rfl, lb⟩
  have B14 := B13.trans (lb.mono B13.size)
  replace sa := sa.later lb
  replace sb := sb.later lb
  replace sc := sc.later lb
  replace s1 := s1.later lb
  replace sab := sab.later lb
  clear lb B13 st su
  go_wp2_with fail
  refine (mul_k sa sb (K) (K) (by omega) (by omega) (by omega) (by omega)).mono ?_
  rintro e w15 ⟨to, tn, tc, rfl, st, lt, lb⟩
  try simp only [val_toL] at st
  have B15 := B14.trans (lb.mono B14.size)
  replace sa := sa.later lb
  replace sb := sb.later lb
  replace sc := sc.later lb
  replace s1 := s1.later lb
  replace sab := sab.later lb
  clear lb B14
  go_wp2_with fail
  refine (mul_k st sc (K + K) (K) (by omega) (by omega) (by omega) (by omega)).mono ?_
  rintro e w16 ⟨uo, un, uc, rfl, su, lu, lb⟩
  try simp only [val_toL] at su
  have B16 := B15.trans (lb.mono B15.size)
  replace sa := sa.later lb
  replace sb := sb.later lb
  replace sc := sc.later lb
  replace s1 := s1.later lb
  replace sab := sab.later lb
  clear lb B15 st
  go_wp2_with fail
  refine (mul_k sb sc (K) (K) (by omega) (by omega) (by omega) (by omega)).mono ?_
  rintro e w17 ⟨to, tn, tc, rfl, st, lt, lb⟩
  try simp only [val_toL] at st
  have B17 := B16.trans (lb.mono B16.size)
  replace sa := sa.later lb
  replace sb := sb.later lb
  replace sc := sc.later lb
  replace s1 := s1.later lb
  replace sab := sab.later lb
  replace su := su.later lb
  clear lb B16
  go_wp2_with fail
  refine (mul_k sa st (K) (K + K) (by omega) (by omega) (by omega) (by omega)).mono ?_
  rintro e w18 ⟨vo, vn, vc, rfl, sv, lv, lb⟩
  try simp only [val_toL] at sv
  have B18 := B17.trans (lb.mono B17.size)
  replace sa := sa.later lb
  replace sb := sb.later lb
  replace sc := sc.later lb
  replace s1 := s1.later lb
  replace sab := sab.later lb
  replace su := su.later lb
  clear lb B17 st
  go_wp2_with fail
  refine (same_k su sv (by rw [Nat.mul_assoc]) (by omega)).mono ?_
  rintro e w19 ⟨rfl, lb⟩
  have B19 := B18.trans (lb.mono B18.size)
  replace sa := sa.later lb
  replace sb := sb.later lb
  replace sc := sc.later lb
  replace s1 := s1.later lb
  replace sab := sab.later lb
  clear lb B18 su sv
  go_wp2_with fail
  refine (mul_k sa s1 (K) (1) (by omega) (by omega) (by omega) (by omega)).mono ?_
  rintro e w20 ⟨to, tn, tc, rfl, st, lt, lb⟩
  try simp only [val_toL] at st
  have B20 := B19.trans (lb.mono B19.size)
  replace sa := sa.later lb
  replace sb := sb.later lb
  replace sc := sc.later lb
  replace s1 := s1.later lb
  replace sab := sab.later lb
  clear lb B19
  go_wp2_with fail
  refine (norm_k sa (K) (by omega) (by omega)).mono ?_
  rintro e w21 ⟨uo, un, uc, rfl, su, lu, lb⟩
  try simp only [val_toL] at su
  have B21 := B20.trans (lb.mono B20.size)
  replace sa := sa.later lb
  replace sb := sb.later lb
  replace sc := sc.later lb
  replace s1 := s1.later lb
  replace sab := sab.later lb
  replace st := st.later lb
  clear lb B20
  go_wp2_with fail
  refine (same_k st su (by simp [val]) (by omega)).mono ?_
  rintro e w22 ⟨rfl, lb⟩
  have B22 := B21.trans (lb.mono B21.size)
  replace sa := sa.later lb
  replace sb := sb.later lb
  replace sc := sc.later lb
  replace sab := sab.later lb
  clear lb B21 st su s1
  go_wp2_with fail
  refine (mul_k sa (Sl.nil _ _) (K) 0 (by omega) (by omega) (by omega) (by omega)).mono ?_
  rintro e w23 ⟨to, tn, tc, rfl, st, lt, lb⟩
  try simp only [val_toL] at st
  have B23 := B22.trans (lb.mono B22.size)
  replace sa := sa.later lb
  replace sb := sb.later lb
  replace sc := sc.later lb
  replace sab := sab.later lb
  clear lb B22
  have tz : tn = 0 := by have := st.len; simpa [val, toL_zero] using this.symm
  have tb : ((tn : Int) == 0) = true := by simp [tz]
  clear tz lt
  go_wp2_with fail
  refine (fixed_any _).mono ?_
  rintro e w24 ⟨rfl, lb⟩
  have B24 := B23.trans (lb.mono B23.size)
  replace sa := sa.later lb
  replace sb := sb.later lb
  replace sc := sc.later lb
  replace sab := sab.later lb
  clear lb B23 st
  go_wp2_with fail
  refine (mul_k sab sc (K + 1) (K) (by omega) (by omega) (by omega) (by omega)).mono ?_
  rintro e w25 ⟨to, tn, tc, rfl, st, lt, lb⟩
  try simp only [val_toL] at st
  have B25 := B24.trans (lb.mono B24.size)
  replace sa := sa.later lb
  replace sb := sb.later lb
  replace sc := sc.later lb
  replace sab := sab.later lb
  clear lb B24
  go_wp2_with fail
  refine (mul_k sa sc (K) (K) (by omega) (by omega) (by omega) (by omega)).mono ?_
  rintro e w26 ⟨uo, un, uc, rfl, su, lu, lb⟩
  try simp only [val_toL] at su
  have B26 := B25.trans (lb.mono B25.size)
  replace sa := sa.later lb
  replace sb := sb.later lb
  replace sc := sc.later lb
  replace sab := sab.later lb
  replace st := st.later lb
  clear lb B25
  go_wp2_with fail
  refine (mul_k sb sc (K) (K) (by omega) (by omega) (by omega) (by omega)).mono ?_
  rintro e w27 ⟨vo, vn, vc, rfl, sv, lv, lb⟩
  try simp only [val_toL] at sv
  have B27 := B26.trans (lb.mono B26.size)
  replace sa := sa.later lb
  replace sb := sb.later lb
  replace sc := sc.later lb
  replace sab := sab.later lb
  replace st := st.later lb
  replace su := su.later lb
  clear lb B26
  go_wp2_with fail
  refine (add_k su sv (K + K) (by omega) (by omega) (by omega)).mono ?_
  rintro e w28 ⟨xo, xn, xc, rfl, sx, lx, lb⟩
  try simp only [val_toL] at sx
  have B28 := B27.trans (lb.mono B27.size)
  replace sa := sa.later lb
  replace sb := sb.later lb
  replace sc := sc.later lb
  replace sab := sab.later lb
  replace st := st.later lb
  replace su := su.later lb
  replace sv := sv.later lb
  clear lb B27
  go_wp2_with fail
  refine (same_k st sx (by rw [Nat.add_mul]) (by omega)).mono ?_
  rintro e w29 ⟨rfl, lb⟩
  have B29 := B28.trans (lb.mono B28.size)
  replace sa := sa.later lb
  replace sb := sb.later lb
  replace sc := sc.later lb
  replace sab := sab.later lb
  clear lb B28 st su sv sx
  go_wp2
  go_ret
  exact ⟨rfl, B29⟩

end Go.Proofs.Ytpbpkemmmmjjlaa
